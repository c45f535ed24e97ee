import PyProof.Rows.All
import Wide.All
import OpenK.AllK
import Wide.FinOn
import Lean
import PyProof.EqAt
import PyProof.EqKinds
import PyProof.TupleCall
import PyProof.Rows.SetFrom
import PyProof.TupleKey
import PyProof.Cells
import KE.KSortTup
import PyProof.WalksMore
import PyProof.ConsumeS
import PyProof.ListTruth
import PyProof.ListRange
import PySem.Challenge.RW_mergeline_k26_greatest_loads
set_option Elab.async false
set_option linter.all false
set_option maxRecDepth 100000
/-! THE HAND LAYER, for ints, bools, texts, own classes, LISTS and tuples (index, slices, in, append, pop ..), calls, loops. Paste it whole ahead of your own text; what your proof does not reach may be deleted. -/
namespace L2
open PySem PySem.Spec PyProof.Rows

/-- a key: an int or a str -/
abbrev Key := Sum Int Str
def keyIs : Key → Value → Bool
  | .inl k, v => Value.isInt k v
  | .inr x, v => Value.isStrOf x v
def keyH (w : World) : Key → Int
  | .inl k => hashInt k
  | .inr x => hashStr w x
theorem keyIs_shape : ∀ {k : Key} {v : Value}, keyIs k v = true → (∃ i t, k = Sum.inl i ∧ v = Value.int i t) ∨ (∃ x t, k = Sum.inr x ∧ v = Value.str x t)
  | .inl i, v, h => by
    obtain ⟨t, e⟩ := Value.isInt_shape (k := i) (v := v) h
    exact .inl ⟨i, t, rfl, e⟩
  | .inr x, v, h => by
    obtain ⟨t, e⟩ := Value.isStrOf_shape (x := x) (v := v) h
    exact .inr ⟨x, t, rfl, e⟩
theorem key_ll (a b : Int) : decide ((Sum.inl a : Key) = Sum.inl b) = (a == b) := by
  by_cases e : a = b
  · subst e; simp
  · have h : ¬ (Sum.inl a : Key) = Sum.inl b := fun q => e (Sum.inl.inj q)
    rw [decide_eq_false h]
    exact (beq_eq_false_iff_ne.mpr e).symm
theorem key_rr (a b : Str) : decide ((Sum.inr a : Key) = Sum.inr b) = decide (a = b) := by
  by_cases e : a = b
  · subst e; simp
  · have h : ¬ (Sum.inr a : Key) = Sum.inr b := fun q => e (Sum.inr.inj q)
    rw [decide_eq_false h, decide_eq_false e]
theorem key_lr (a : Int) (b : Str) : decide ((Sum.inl a : Key) = Sum.inr b) = false := decide_eq_false (fun q => nomatch q)
theorem key_rl (a : Str) (b : Int) : decide ((Sum.inr a : Key) = Sum.inl b) = false := decide_eq_false (fun q => nomatch q)

def mixKind (prog : Program) (w : World) : PySem.KeyKind prog w Key where
  is := keyIs
  hash := keyH w
  inj := fun v a b ha hb => by
    rcases keyIs_shape ha with ⟨i, t, rfl, rfl⟩ | ⟨x, t, rfl, rfl⟩
    · rcases keyIs_shape hb with ⟨j, u, rfl, e⟩ | ⟨y, u, rfl, e⟩
      · injection e with e1 _; rw [e1]
      · exact nomatch e
    · rcases keyIs_shape hb with ⟨j, u, rfl, e⟩ | ⟨y, u, rfl, e⟩
      · exact nomatch e
      · injection e with e1 _; rw [e1]
  byValue := fun k v h => by
    rcases keyIs_shape h with ⟨i, t, rfl, rfl⟩ | ⟨x, t, rfl, rfl⟩ <;> rfl
  pyHash := fun hv h => by
    rcases keyIs_shape hv with ⟨i, t, rfl, rfl⟩ | ⟨x, t, rfl, rfl⟩
    · exact wpAny_pyHash_int h
    · exact wpAny_pyHash_str h
  eqBool := fun hu hv h => by
    rcases keyIs_shape hu with ⟨i, t, rfl, rfl⟩ | ⟨x, t, rfl, rfl⟩
    · rcases keyIs_shape hv with ⟨j, u, rfl, rfl⟩ | ⟨y, u, rfl, rfl⟩
      · rw [key_ll] at h; exact wpAny_eqBool_int h
      · rw [key_lr] at h; exact SeqAt.EqAt.int_str i t y u _ _ _ _ h
    · rcases keyIs_shape hv with ⟨j, u, rfl, rfl⟩ | ⟨y, u, rfl, rfl⟩
      · rw [key_rl] at h; exact SeqAt.EqAt.str_int x t j u _ _ _ _ h
      · rw [key_rr] at h; exact wpAny_eqBool_str h
  «strs» := fun k x t v h => by
    rcases keyIs_shape h with ⟨i, u, rfl, e⟩ | ⟨y, u, rfl, e⟩
    · exact nomatch e
    · injection e with e1 _
      subst e1
      cases v <;> rfl

end L2

namespace L2
open PySem PySem.Spec PyProof.Rows

/-- a value, without the heap -/
inductive V where
  | non | bl (b : Bool) | int (i : Int) | str (x : Str) | byt (b : Array UInt8) | flt (b : UInt64) | ref (a : Addr) | ty (n : String)
  deriving DecidableEq

def RelV : V → Value → Prop
  | .non, u => u = Value.none
  | .bl b, u => u = Value.bool b
  | .int i, u => ∃ t, u = Value.int i t
  | .str x, u => ∃ t, u = Value.str x t
  | .byt b, u => ∃ t, u = Value.bytes b t
  | .flt b, u => ∃ t, u = Value.float b t
  | .ref a, u => u = Value.ref a
  | .ty n, u => u = Value.type n

abbrev Vals : List V → List Value → Prop := Paired RelV
theorem Vals.length {xs : List V} {us : List Value} (r : Vals xs us) : xs.length = us.length := Paired.length r
theorem Vals.get : ∀ {xs : List V} {us : List Value} {i : Nat} {x : V}, Vals xs us → xs[i]? = some x → ∃ u, us[i]? = some u ∧ RelV x u
  | _, _, _, _, .nil, e => by simp at e
  | _, _, 0, _, .cons r _, e => by simp at e; subst e; exact ⟨_, rfl, r⟩
  | _, _, i + 1, x, .cons _ t, e => by
    obtain ⟨u, h1, h2⟩ := Vals.get (i := i) (x := x) t (by simpa using e)
    exact ⟨u, by simpa using h1, h2⟩
theorem Vals.append : ∀ {xs ys : List V} {us ws : List Value}, Vals xs us → Vals ys ws → Vals (xs ++ ys) (us ++ ws)
  | _, _, _, _, .nil, s => s
  | _, _, _, _, .cons r t, s => .cons r (Vals.append t s)
theorem Vals.take : ∀ {xs : List V} {us : List Value} (n : Nat), Vals xs us → Vals (xs.take n) (us.take n)
  | _, _, 0, _ => .nil
  | _, _, _ + 1, .nil => .nil
  | _, _, n + 1, .cons r t => .cons r (Vals.take n t)
theorem Vals.drop : ∀ {xs : List V} {us : List Value} (n : Nat), Vals xs us → Vals (xs.drop n) (us.drop n)
  | _, _, 0, r => r
  | _, _, _ + 1, .nil => .nil
  | _, _, n + 1, .cons _ t => Vals.drop n t

def RelO : Option V → Option Value → Prop
  | some v, some u => RelV v u
  | none, none => True
  | _, _ => False
def KV {κ : Type} : List (κ × V) → List (κ × Value) → Prop := Paired fun (p : κ × V) (q : κ × Value) => p.1 = q.1 ∧ RelV p.2 q.2

/-- a key of a dict (00_mix): an int or a text -/
def kV : Key → V
  | .inl i => .int i
  | .inr x => .str x

/-- what stands at a tracked address -/
inductive HO where
  /-- a list -/
  | lst (xs : List V)
  /-- a tuple (never changes) -/
  | tup (xs : List V)
  /-- a dict whose keys are ints and texts; one whose keys are tuples of ints and texts (the empty one is both) -/
  | dK (kvs : List (Key × V)) | dT (kvs : List (List Key × V))
  /-- a set of ints: its members, its size -/
  | set (S : Int → Bool) (n : Nat)
  /-- an instance of the class at C, its dict at dx, its attributes -/
  | ins (C dx : Addr) (fs : List (Str × V))
  /-- the dict of the instance at x -/
  | own (x : Addr)
  /-- the dict of an exception -/
  | xd (fs : List (Str × V))
  /-- a bound method, f of x -/
  | met (f x : Addr)
  /-- a range object lo, lo + 1, .. below hi -/
  | rng (lo hi : Int)
  /-- a thing that is known to the object (the script; a dict while a loop walks it): read, never written while it is so -/
  | frz (o : Obj) (u : HO)
  /-- a code object's table -/
  | tbl (ps : Array Value)
  /-- any other thing, by what is true of its one object (a def of one's own: SetO a S n := HO.ext fun h => ..) -/
  | ext (φ : Heap → Prop)

abbrev Hp := Addr → Option HO
def upd (H : Hp) (a : Addr) (o : HO) : Hp := fun b => if b = a then some o else H b
theorem upd_same {H : Hp} {a : Addr} {o : HO} : upd H a o a = some o := by unfold upd; rw [if_pos rfl]
theorem upd_ne {H : Hp} {a b : Addr} {o : HO} (h : b ≠ a) : upd H a o b = H b := by unfold upd; rw [if_neg h]
theorem ne_of_none {H : Hp} {a b : Addr} {o : HO} (h : H a = some o) (h' : H b = none) : a ≠ b := by
  intro e; subst e; rw [h] at h'; cases h'

section
variable (P : Program) (w : World)
def ObjOk (H : Hp) (h : Heap) (a : Addr) : HO → Prop
  | .lst xs => xs.length ≤ sizeLine ∧ ∃ (its : List Value) (n : Nat), Vals xs its ∧ h.get? a = some { cls := .type "list", data := .seq its.toArray n }
  | .tup xs => xs.length ≤ sizeLine ∧ ∃ its : List Value, Vals xs its ∧ IsTup h a its.toArray
  | .dK kvs => kvs.length ≤ sizeLine ∧ (a == sysModules) = false ∧ ∃ vs, KV kvs vs ∧ h.DictOf (mixKind P w) a vs
  | .dT kvs => kvs.length ≤ sizeLine ∧ (a == sysModules) = false ∧ ∃ xs : List (List Key × Addr × Value),
      Paired (fun (p : List Key × V) (q : List Key × Addr × Value) => p.1 = q.1 ∧ H q.2.1 = some (.tup (p.1.map kV)) ∧ RelV p.2 q.2.2) kvs xs ∧
      ∃ o es ep, h.get? a = some o ∧ o.ExactDict ∧ o.data = .dict es ep ∧ es.toList = xs.map (entryOfKey (tupleKind (mixKind P w))) ∧ (xs.map (·.1)).Nodup
  | .set S n => h.SetOf (intKind P w) a S n
  | .ins C dx fs => H dx = some (.own a) ∧ fs.length ≤ 1000 ∧ dx ≠ a ∧ h.get? a = some (PySem.W.instObj C dx) ∧
      ∃ mA, h.Ns1 dx mA ∧ (∀ f, RelO (fs.lookup f) (mA f)) ∧ PySem.Within mA (fs.map (·.1))
  | .own _ => ∃ o, h.get? a = some o
  | .xd fs => ∃ mA, h.Ns1 a mA ∧ ∀ f, RelO (fs.lookup f) (mA f)
  | .rng lo hi => ∃ t u v, h.get? a = some { cls := .type "range", data := .fields #[.int lo t, .int hi u, .int 1 v] }
  | .frz o u => h.get? a = some o ∧ ObjOk H h a u
  | .tbl ps => h.get? a = some { cls := .none, data := .fields ps }
  | .met f x => h.get? a = some (PySem.W.methodObj (.ref f) (.ref x))
  | .ext φ => φ h ∧ (∃ o, h.get? a = some o) ∧ ∀ h1 h2 : Heap, φ h1 → (∀ o, h1.get? a = some o → h2.get? a = some o) → φ h2
/-- the abstract heap is held -/
def HOk (H : Hp) (h : Heap) : Prop := ∀ a o, H a = some o → ObjOk P w H h a o
end

section
variable {P : Program} {w : World} {H H' : Hp} {h h' : Heap} {a : Addr} {o : HO}
theorem ObjOk.lt (x : ObjOk P w H h a o) : a < h.objs.size := by
  cases o with
  | lst xs => obtain ⟨_, _, _, _, e⟩ := x; exact Heap.lt_size e
  | tup xs => obtain ⟨_, _, _, p⟩ := x; exact p.lt
  | dK kvs => obtain ⟨_, _, _, _, o, _, _, e, _⟩ := x; exact Heap.lt_size e
  | dT kvs => obtain ⟨_, _, _, _, o, _, _, e, _⟩ := x; exact Heap.lt_size e
  | set S n => obtain ⟨o, _, _, _, e, _⟩ := x; exact Heap.lt_size e
  | ins C dx fs => obtain ⟨_, _, _, e, _⟩ := x; exact Heap.lt_size e
  | own y => obtain ⟨_, e⟩ := x; exact Heap.lt_size e
  | xd fs => obtain ⟨_, ⟨_, _, _, e, _⟩, _⟩ := x; exact Heap.lt_size e
  | rng lo hi => obtain ⟨_, _, _, e⟩ := x; exact Heap.lt_size e
  | frz ob u => obtain ⟨e, _⟩ := x; exact Heap.lt_size e
  | tbl ps => exact Heap.lt_size (show h.get? a = some _ from x)
  | met f y => exact Heap.lt_size (show h.get? a = some _ from x)
  | ext φ => obtain ⟨_, ⟨_, e⟩, _⟩ := x; exact Heap.lt_size e
theorem Paired.mapP {α β : Type} {F G : α → β → Prop} : ∀ {l₁ : List α} {l₂ : List β}, Paired F l₁ l₂ → (∀ a b, F a b → G a b) → Paired G l₁ l₂
  | _, _, .nil, _ => .nil
  | _, _, .cons r t, f => .cons (f _ _ r) (Paired.mapP t f)
/-- what an object's description leans on: its own object, its own dict, the tuples -/
theorem ObjOk.stay (x : ObjOk P w H h a o) (k : ∀ b u, (b = a ∨ H b = some (.own a)) → h.get? b = some u → h'.get? b = some u)
    (ho : ∀ b, H b = some (.own a) → H' b = some (.own a)) (ht : ∀ b xs, H b = some (.tup xs) → H' b = some (.tup xs)) : ObjOk P w H' h' a o := by
  induction o with
  | lst xs => obtain ⟨z, its, n, r, e⟩ := x; exact ⟨z, its, n, r, k _ _ (.inl rfl) e⟩
  | tup xs => obtain ⟨z, its, r, ob, e, c⟩ := x; exact ⟨z, its, r, ob, k _ _ (.inl rfl) e, c⟩
  | dK kvs => obtain ⟨z, y, vs, r, ob, es, ep, e, c⟩ := x; exact ⟨z, y, vs, r, ob, es, ep, k _ _ (.inl rfl) e, c⟩
  | dT kvs =>
    obtain ⟨z, y, xs, r, ob, es, ep, e, c⟩ := x
    exact ⟨z, y, xs, Paired.mapP r fun p q z => ⟨z.1, ht _ _ z.2.1, z.2.2⟩, ob, es, ep, k _ _ (.inl rfl) e, c⟩
  | set S n => obtain ⟨ob, es, ep, t, e, c⟩ := x; exact ⟨ob, es, ep, t, k _ _ (.inl rfl) e, c⟩
  | ins C dx fs =>
    obtain ⟨d, z, ne, e, mA, ⟨od, es, ep, e2, c⟩, r⟩ := x
    exact ⟨ho _ d, z, ne, k _ _ (.inl rfl) e, mA, ⟨od, es, ep, k _ _ (.inr d) e2, c⟩, r⟩
  | own y => obtain ⟨ob, e⟩ := x; exact ⟨ob, k _ _ (.inl rfl) e⟩
  | xd fs => obtain ⟨mA, ⟨od, es, ep, e, c⟩, r⟩ := x; exact ⟨mA, ⟨od, es, ep, k _ _ (.inl rfl) e, c⟩, r⟩
  | rng lo hi => obtain ⟨t, u, v, e⟩ := x; exact ⟨t, u, v, k _ _ (.inl rfl) e⟩
  | frz ob u ih => obtain ⟨e, q⟩ := x; exact ⟨k _ _ (.inl rfl) e, ih q⟩
  | tbl ps =>
    have e : h.get? a = some { cls := .none, data := .fields ps } := x
    show h'.get? a = some { cls := .none, data := .fields ps }
    exact k a _ (.inl rfl) e
  | met f y =>
    have e : h.get? a = some (PySem.W.methodObj (.ref f) (.ref y)) := x
    show h'.get? a = some (PySem.W.methodObj (.ref f) (.ref y))
    exact k a _ (.inl rfl) e
  | ext φ => obtain ⟨p, ⟨o, e⟩, st⟩ := x; exact ⟨st _ _ p fun o q => k _ _ (.inl rfl) q, ⟨o, k _ _ (.inl rfl) e⟩, st⟩
theorem HOk.lt (x : HOk P w H h) (e : H a = some o) : a < h.objs.size := (x a o e).lt
theorem HOk.fresh (x : HOk P w H h) (e : h.objs.size ≤ a) : H a = none := by
  cases q : H a with
  | none => rfl
  | some u => exact absurd (Nat.lt_of_lt_of_le (x.lt q) e) (Nat.lt_irrefl _)
/-- every object of the heap is kept -/
theorem HOk.kept (x : HOk P w H h) (k : ∀ b u, h.get? b = some u → h'.get? b = some u) : HOk P w H h' := fun a o e =>
  (x a o e).stay (fun b u _ q => k b u q) (fun _ q => q) fun _ _ q => q
/-- a new object is laid and tracked -/
theorem HOk.laid (x : HOk P w H h) (k : ∀ b u, h.get? b = some u → h'.get? b = some u) (hp : h.objs.size ≤ a) (new : ObjOk P w (upd H a o) h' a o) : HOk P w (upd H a o) h' := fun b u e => by
  have hn := x.fresh hp
  by_cases hb : b = a
  · subst hb; rw [upd_same] at e; cases e; exact new
  · rw [upd_ne hb] at e
    exact (x b u e).stay (fun c v _ q => k c v q) (fun c q => by rw [upd_ne (ne_of_none q hn)]; exact q) fun c xs q => by rw [upd_ne (ne_of_none q hn)]; exact q
end

/-- what may be read as u: it is u, or a known u -/
def Rd (H : Hp) (a : Addr) (u : HO) : Prop := H a = some u ∨ ∃ o, H a = some (.frz o u)
theorem Rd.ok {P : Program} {w : World} {H : Hp} {h : Heap} {a : Addr} {u : HO} (r : Rd H a u) (x : HOk P w H h) : ObjOk P w H h a u := by
  rcases r with r | ⟨o, r⟩
  · exact x a u r
  · obtain ⟨_, q⟩ := x a _ r
    exact q
/-- what may be written -/
def Mut : Option HO → Prop
  | some (.lst _) => True
  | some (.dK _) => True
  | some (.dT _) => True
  | some (.set _ _) => True
  | some (.ins _ _ _) => True
  | some (.ext _) => True
  | _ => False
section
variable {P : Program} {w : World} {H : Hp} {h h' : Heap} {x e : Addr} {o' : HO}
/-- the object at e is changed: x itself, or the dict of the instance x -/
theorem HOk.write (ok : HOk P w H h) (mu : Mut (H x)) (he : e = x ∨ H e = some (.own x)) (k : ∀ b u, b ≠ e → h.get? b = some u → h'.get? b = some u) (heo : ∃ u, h'.get? e = some u)
    (new : ObjOk P w (upd H x o') h' x o') : HOk P w (upd H x o') h' := fun b u q => by
  have nown : ∀ c y, H c = some (.own y) → c ≠ x := fun c y r z => by subst z; rw [r] at mu; exact mu
  have ntup : ∀ c xs, H c = some (.tup xs) → c ≠ x := fun c xs r z => by subst z; rw [r] at mu; exact mu
  by_cases hb : b = x
  · subst hb; rw [upd_same] at q; cases q; exact new
  · rw [upd_ne hb] at q
    by_cases hbe : b = e
    · have q' : H b = some (.own x) := by
        rcases he with z | z
        · exact absurd (hbe.trans z) hb
        · rw [hbe]; exact z
      rw [q] at q'; cases q'
      obtain ⟨v, hv⟩ := heo
      exact ⟨v, by rw [hbe]; exact hv⟩
    · refine (ok b u q).stay (fun c v hc r => k c v ?_ r) (fun c r => by rw [upd_ne (nown c b r)]; exact r) fun c xs r => by rw [upd_ne (ntup c xs r)]; exact r
      rcases hc with rfl | hc
      · exact hbe
      · rintro rfl
        rcases he with z | z
        · exact nown c b hc z
        · rw [hc] at z; cases z; exact hb rfl
end

/-! ### kept unless tracked; of the frames at fs (the callers') the slots may change (an exception that passes writes there); of the records at ex (iterators) nothing is said -/
structure Un (fs ex : List Addr) (H H' : Hp) (h h' : Heap) : Prop where
  keep : ∀ b o, h.get? b = some o → H b = none → b ∉ fs → b ∉ ex → h'.get? b = some o
  slot : ∀ b o, h.get? b = some o → H b = none → b ∈ fs → b ∉ ex → ∃ sl, h'.get? b = some { o with slots := sl }
  free : ∀ b o, h.get? b = some o → H b = none → b ∉ ex → H' b = none
  there : ∀ b o, h.get? b = some o → b ∉ ex → ∃ o', h'.get? b = some o'
  tups : ∀ b xs, H b = some (.tup xs) → H' b = some (.tup xs)
  frzs : ∀ b o u, H b = some (.frz o u) → H' b = some (.frz o u)
  tbls : ∀ b ps, H b = some (.tbl ps) → ∃ more, H' b = some (.tbl (ps ++ more))
section
variable {fs fs' ex ex' : List Addr} {H H1 H2 : Hp} {h h1 h2 h' : Heap} {a x e : Addr} {o : HO}
theorem Un.any (u : Un fs ex H H1 h h1) {b : Addr} {ob : Obj} (q : h.get? b = some ob) (n : H b = none) (hx : b ∉ ex) : ∃ sl, h1.get? b = some { ob with slots := sl } := by
  by_cases hb : b ∈ fs
  · exact u.slot b ob q n hb hx
  · exact ⟨ob.slots, u.keep b ob q n hb hx⟩
theorem Un.kept (k : ∀ b u, h.get? b = some u → h'.get? b = some u) : Un fs ex H H h h' :=
  ⟨fun b ob q _ _ _ => k b ob q, fun b ob q _ _ _ => ⟨ob.slots, k b ob q⟩, fun _ _ _ n _ => n, fun b ob q _ => ⟨ob, k b ob q⟩, fun _ _ q => q, fun _ _ _ q => q, fun _ ps q => ⟨#[], by rw [q]; simp⟩⟩
theorem Un.refl : Un fs ex H H h h := Un.kept fun _ _ q => q
theorem Un.laid (k : ∀ b u, h.get? b = some u → h'.get? b = some u) (hp : h.objs.size ≤ a) (hn : H a = none) : Un fs ex H (upd H a o) h h' where
  keep := fun b u q _ _ _ => k b u q
  slot := fun b u q _ _ _ => ⟨u.slots, k b u q⟩
  free := fun b u q n _ => by rw [upd_ne (Nat.ne_of_lt (Nat.lt_of_lt_of_le (Heap.lt_size q) hp))]; exact n
  there := fun b u q _ => ⟨u, k b u q⟩
  tups := fun b xs q => by rw [upd_ne (ne_of_none q hn)]; exact q
  frzs := fun b u xs q => by rw [upd_ne (ne_of_none q hn)]; exact q
  tbls := fun b ps q => ⟨#[], by rw [upd_ne (ne_of_none q hn), q]; simp⟩
theorem Un.write (mu : Mut (H x)) (he : e = x ∨ H e = some (.own x)) (k : ∀ b u, b ≠ e → h.get? b = some u → h'.get? b = some u) (heo : ∃ u, h'.get? e = some u) : Un fs ex H (upd H x o) h h' := by
  have hx : ∀ b, H b = none → b ≠ x := fun b n z => by subst z; rw [n] at mu; exact mu
  have hb : ∀ b, H b = none → b ≠ e := fun b n z => by
    subst z
    rcases he with r | r
    · exact hx b n r
    · rw [n] at r; cases r
  have hm : ∀ b u, H b = some u → ¬ Mut (some u) → b ≠ x := fun b u q nm z => by subst z; rw [q] at mu; exact nm mu
  refine ⟨fun b u q n _ _ => k b u (hb b n) q, fun b u q n _ _ => ⟨u.slots, k b u (hb b n) q⟩, fun b u q n _ => by rw [upd_ne (hx b n)]; exact n, fun b u q _ => ?_,
    fun b xs q => by rw [upd_ne (hm b _ q fun z => z)]; exact q, fun b u xs q => by rw [upd_ne (hm b _ q fun z => z)]; exact q, fun b ps q => ⟨#[], by rw [upd_ne (hm b _ q fun z => z), q]; simp⟩⟩
  by_cases hbe : b = e
  · subst hbe; exact heo
  · exact ⟨u, k b u hbe q⟩
end

/-! ### the heap without what is tracked -/
def trk (h : Heap) (H : Hp) : List Addr := (List.range h.objs.size).filter fun a => (H a).isSome
def hidT (h : Heap) (H : Hp) : Heap := PySem.W.hideAll h (trk h H)
theorem hidT_size (h : Heap) (H : Hp) : (hidT h H).objs.size = h.objs.size := PySem.W.hideAll_size _ _
theorem hidT_get {h : Heap} {H : Hp} {b : Addr} {o : Obj} (e : h.get? b = some o) (n : H b = none) : (hidT h H).get? b = some o :=
  PySem.W.hideAll_get _ e fun hm => by
    have q : (H b).isSome = true := (List.mem_filter.mp hm).2
    rw [n] at q; simp at q
theorem of_hidT {h : Heap} {H : Hp} {b : Addr} {o : Obj} (e : (hidT h H).get? b = some o) : h.get? b = some o ∧ H b = none := by
  have e' : h.get? b = some o := PySem.W.of_hideAll (trk h H) e
  refine ⟨e', ?_⟩
  cases q : H b with
  | none => rfl
  | some x =>
    have hm : b ∈ trk h H := List.mem_filter.mpr ⟨List.mem_range.mpr (Heap.lt_size e'), by simp [q]⟩
    have z : (hidT h H).get? b = none := PySem.W.hideAll_none (trk h H) hm
    rw [z] at e; cases e

/-! ### OpenK's ledger, filled with every new object but one -/
end L2

namespace L2
open PySem PySem.Spec PyProof.Rows

/-- the module's facts, over the base: the heap at the law's entry without what is tracked there -/
structure Mod (K : PySem.W.Frag) (mg : Str → Option Value) (base : Heap) : Prop where
  kin : K.In base
  glob : base.Ns mainGlobals mg
  blt : ∃ mb, base.Ns builtinsNs mb ∧ ∀ x : Str, x ≠ "__name__" → mb x = bootBuiltins x
  nolimit : base.NoLimit

/-- the context: a def's body (or a comprehension's block) running. base: fixed through the whole law; s₀, H₀: the entry; outer: the frames whose slots others may change (a def's callers); stack: all frames that run;
   ex: iterators that were made ahead of the entry and are walked here (a comprehension's); fn: the names whose cells were made at the entry (a def: all; a comprehension's block: its own); calm: not within an except suite; pn: pins that every state bears; xe: what is wanted of an exception that leaves the code -/
structure Cx where
  prog : Program
  w : World
  K : PySem.W.Frag
  mg : Str → Option Value
  base : Heap
  A : Around
  N : List Str
  s₀ : Shared
  H₀ : Hp
  env : Env
  outer : List Env
  stack : List Env
  ex : List Addr
  fn : Str → Bool
  calm : Bool
  pn : List (Addr × Obj)
  xe : Value → Shared → Prop
/-- the callers' frames -/
def frs (l : List Env) : List Addr := l.filterMap (·.frame)
abbrev Cx.fs (X : Cx) : List Addr := frs X.outer

def Vis (sc : Scope) (x : Str) : Prop := sc.names.lookup x = some .local ∨ sc.names.lookup x = some .cell ∨ sc.names.lookup x = some .free
def Loc (sc : Scope) (x : Str) : Prop := sc.names.lookup x = some .local ∨ sc.names.lookup x = some .cell
def Look (env : Env) (h : Heap) (m : Str → Option Value) (x : Str) (u : Value) : Prop :=
  (env.kindOf x = some .local ∧ m x = some u) ∨ ((env.kindOf x = some .cell ∨ env.kindOf x = some .free) ∧ ∃ c, env.cells.lookup x = some c ∧ h.IsCell c (some u))

structure Cx.Ok (X : Cx) : Prop where
  mod : Mod X.K X.mg X.base
  kind : X.env.scope.kind = .function
  glob : X.env.globals = mainGlobals
  blt : X.env.builtins = builtinsNs
  above : X.s₀.heap.objs.size ≤ X.env.locals
  inj : ∀ x y c, X.env.cells.lookup x = some c → X.env.cells.lookup y = some c → x = y
  has : ∀ x, (X.env.kindOf x = some .cell ∨ X.env.kindOf x = some .free) → ∃ c, X.env.cells.lookup x = some c
  cab : ∀ x c, X.fn x = true → X.env.cells.lookup x = some c → X.s₀.heap.objs.size ≤ c
  hd : X.calm = true → X.A.handled = none
  frames : X.A.frames = some X.stack
  stk : X.stack = X.outer ∨ (X.stack = X.env :: X.outer ∧ X.env.frame = some X.env.locals)
  exf : ∀ b ∈ X.ex, b ≠ X.env.locals ∧ ∀ x c, X.env.cells.lookup x = some c → c ≠ b
  bs : ∀ b o, X.base.get? b = some o → X.s₀.heap.get? b = some o ∧ X.H₀ b = none
  bsz : X.base.objs.size ≤ X.s₀.heap.objs.size
  noex : ∀ b o, X.base.get? b = some o → b ∉ X.ex
  exfs : ∀ b ∈ X.ex, b ∉ X.fs
  funs : X.s₀.heap.FunFrames X.base X.outer
  frf : ∀ b ∈ X.fs, X.H₀ b = none

structure Inv (X : Cx) (pins : List (Addr × Obj)) (σ : List (Option V)) (H : Hp) (s : Shared) : Prop where
  ok : X.Ok
  os : s.os = X.s₀.os
  bare : AllBare s.gens
  base : Un X.fs X.ex X.H₀ H X.s₀.heap s.heap
  loc : ∃ m, s.heap.Ns X.env.locals m ∧ ∀ (i : Nat) (x : Str) (v : V), X.N[i]? = some x → σ[i]? = some (some v) → Vis X.env.scope x → ∃ u, RelV v u ∧ Look X.env s.heap m x u
  cell : ∀ x c, X.env.cells.lookup x = some c → ∃ v, s.heap.IsCell c v
  free : H X.env.locals = none
  freeC : ∀ x c, X.env.cells.lookup x = some c → H c = none
  pin : ∀ p ∈ X.pn ++ pins, s.heap.get? p.1 = some p.2 ∧ H p.1 = none ∧ p.1 ≠ X.env.locals ∧ p.1 ∉ X.fs ∧ ∀ v, p.2.data ≠ .cell v
  hok : HOk X.prog X.w H s.heap
  len : σ.length = X.N.length

section
variable {X : Cx} {pins : List (Addr × Obj)} {σ : List (Option V)} {H H' : Hp} {s : Shared} {h' : Heap}

theorem Cx.Ok.nofr (ok : X.Ok) {b : Addr} {o : Obj} (e : X.base.get? b = some o) : b ∉ X.fs := fun hb => by
  have := (ok.funs.mem hb).1
  rw [e] at this; cases this
theorem Inv.bs (I : Inv X pins σ H s) : ∀ b o, X.base.get? b = some o → s.heap.get? b = some o ∧ H b = none := fun b o e =>
  ⟨I.base.keep b o (I.ok.bs b o e).1 (I.ok.bs b o e).2 (I.ok.nofr e) (I.ok.noex b o e), I.base.free b o (I.ok.bs b o e).1 (I.ok.bs b o e).2 (I.ok.noex b o e)⟩
theorem Inv.bk (I : Inv X pins σ H s) : ∀ b o, X.base.get? b = some o → s.heap.get? b = some o := fun b o e => (I.bs b o e).1
theorem Inv.mod (I : Inv X pins σ H s) : Mod X.K X.mg X.base := I.ok.mod
theorem Inv.kIn (I : Inv X pins σ H s) : X.K.In s.heap := I.ok.mod.kin.keeps I.bk
theorem Inv.lt (I : Inv X pins σ H s) : X.env.locals < s.heap.objs.size := let ⟨_, hn, _⟩ := I.loc; hn.lt
theorem Inv.sz (I : Inv X pins σ H s) : X.s₀.heap.objs.size ≤ s.heap.objs.size := Nat.le_trans I.ok.above (Nat.le_of_lt I.lt)
theorem Inv.nofs (I : Inv X pins σ H s) {a : Addr} (h : s.heap.objs.size ≤ a) : a ∉ X.fs := fun hb => by
  obtain ⟨_, o, ho, _⟩ := I.ok.funs.mem hb
  exact absurd (Nat.lt_of_lt_of_le (Heap.lt_size ho) (Nat.le_trans I.sz h)) (Nat.lt_irrefl _)
theorem Inv.cne (I : Inv X pins σ H s) : ∀ x c, X.env.cells.lookup x = some c → c ≠ X.env.locals := fun x c e z => by
  obtain ⟨v, o, ho, hd⟩ := I.cell x c e
  obtain ⟨m, ⟨o', es, ep, ho', hd', _⟩, _⟩ := I.loc
  rw [z, ho'] at ho; cases ho; rw [hd'] at hd; cases hd
theorem Inv.funs (I : Inv X pins σ H s) : s.heap.FunFrames X.base X.outer := by
  have all : ∀ (l : List Env), (∀ b ∈ frs l, b ∈ X.fs) → X.s₀.heap.FunFrames X.base l → s.heap.FunFrames X.base l := by
    intro l
    induction l with
    | nil => intro _ _; trivial
    | cons env r ih =>
      intro hs hl
      obtain ⟨hk, ⟨L, o, hf, hn, ho, hd⟩, hr⟩ := hl
      have hL : L ∈ X.fs := hs L (by unfold frs; rw [List.filterMap_cons, hf]; exact List.mem_cons_self)
      obtain ⟨sl, e⟩ := I.base.slot L o ho (I.ok.frf L hL) hL fun z => I.ok.exfs L z hL
      exact ⟨hk, ⟨L, _, hf, hn, e, hd⟩, ih (fun b hb => hs b (by unfold frs; rw [List.filterMap_cons, hf]; exact List.mem_cons_of_mem _ hb)) hr⟩
  exact all X.outer (fun _ hb => hb) I.ok.funs

/-- the frames that run, for a call -/
theorem Inv.stack (I : Inv X pins σ H s) : s.heap.FunFrames X.base X.stack := by
  rcases I.ok.stk with e | ⟨e, hf⟩
  · rw [e]; exact I.funs
  · rw [e]
    obtain ⟨m, hn, _⟩ := I.loc
    refine .cons (by rw [I.ok.kind]; decide) hf hn ?_ I.funs
    exact Heap.get?_none_of_le (Nat.le_trans I.ok.bsz I.ok.above)
theorem Inv.stkSub (I : Inv X pins σ H s) : ∀ b ∈ frs X.stack, b ∈ X.env.locals :: X.fs := fun b hb => by
  rcases I.ok.stk with e | ⟨e, hf⟩
  · rw [e] at hb; exact List.mem_cons_of_mem _ hb
  · rw [e] at hb
    unfold frs at hb
    rw [List.filterMap_cons, hf] at hb
    exact hb
theorem Inv.stkFree (I : Inv X pins σ H s) : ∀ b ∈ frs X.stack, H b = none := fun b hb => by
  rcases List.mem_cons.mp (I.stkSub b hb) with e | hb
  · rw [e]; exact I.free
  · obtain ⟨_, o, ho, _⟩ := I.ok.funs.mem hb
    exact I.base.free b o ho (I.ok.frf b hb) fun z => I.ok.exfs b z hb

/-- THE STEP: the untracked objects but the frame and the records at ch are kept (the callers' frames up to slots), the frame's map is kept, the new abstract heap is held -/
theorem Inv.step {g' : Array GenState} {t' : Nat} {d' : Drawn} {ch : List Addr} (I : Inv X pins σ H s)
    (hch : ∀ b ∈ ch, (b ∈ X.ex ∨ X.s₀.heap.objs.size ≤ b) ∧ b ≠ X.env.locals ∧ (∀ x c, X.env.cells.lookup x = some c → c ≠ b) ∧ ∀ p ∈ X.pn ++ pins, p.1 ≠ b)
    (keep : ∀ b o, b ≠ X.env.locals → b ∉ X.fs → b ∉ ch → s.heap.get? b = some o → H b = none → h'.get? b = some o)
    (slot : ∀ b o, b ≠ X.env.locals → b ∈ X.fs → b ∉ ch → s.heap.get? b = some o → H b = none → ∃ sl, h'.get? b = some { o with slots := sl }) (free : ∀ b o, b ∉ ch → s.heap.get? b = some o → H b = none → H' b = none)
    (there : ∀ b o, b ∉ ch → s.heap.get? b = some o → ∃ o', h'.get? b = some o')
    (tups : ∀ b xs, H b = some (.tup xs) → H' b = some (.tup xs)) (frzs : ∀ b o u, H b = some (.frz o u) → H' b = some (.frz o u)) (tbls : ∀ b ps, H b = some (.tbl ps) → ∃ more, H' b = some (.tbl (ps ++ more)))
    (ns : ∀ m, s.heap.Ns X.env.locals m → h'.Ns X.env.locals m) (hok : HOk X.prog X.w H' h') (hg : AllBare g') :
    Inv X pins σ H' { s with heap := h', gens := g', drawn := d', toks := t' } := by
  have neL : ∀ b o, X.s₀.heap.get? b = some o → b ≠ X.env.locals := fun b o e => Nat.ne_of_lt (Nat.lt_of_lt_of_le (Heap.lt_size e) I.ok.above)
  have neC : ∀ b o, X.s₀.heap.get? b = some o → b ∉ X.ex → b ∉ ch := fun b o e hx hb => by
    rcases (hch b hb).1 with z | z
    · exact hx z
    · exact absurd (Nat.lt_of_lt_of_le (Heap.lt_size e) z) (Nat.lt_irrefl _)
  have cellK : ∀ x c, X.env.cells.lookup x = some c → ∀ v, s.heap.IsCell c v → h'.IsCell c v := fun x c e v ⟨o, ho, hd⟩ => by
    have nch : c ∉ ch := fun z => (hch c z).2.2.1 x c e rfl
    by_cases hc : c ∈ X.fs
    · obtain ⟨sl, q⟩ := slot c o (I.cne x c e) hc nch ho (I.freeC x c e)
      exact ⟨_, q, hd⟩
    · exact ⟨o, keep c o (I.cne x c e) hc nch ho (I.freeC x c e), hd⟩
  refine ⟨I.ok, I.os, hg, ⟨fun b o e n hb hx => ?_, fun b o e n hb hx => ?_, fun b o e n hx => ?_, fun b o e hx => ?_, fun b xs e => tups b xs (I.base.tups b xs e), fun b o xs e => frzs b o xs (I.base.frzs b o xs e), fun b ps e => ?_⟩, ?_, fun x c e => ?_, ?_, fun x c e => ?_, fun p hp => ?_, hok, I.len⟩
  · exact keep b o (neL b o e) hb (neC b o e hx) (I.base.keep b o e n hb hx) (I.base.free b o e n hx)
  · obtain ⟨sl, e1⟩ := I.base.slot b o e n hb hx
    obtain ⟨sl', e2⟩ := slot b _ (neL b o e) hb (neC b o e hx) e1 (I.base.free b o e n hx)
    exact ⟨sl', e2⟩
  · obtain ⟨o', e1⟩ := I.base.there b o e hx
    exact free b o' (neC b o e hx) e1 (I.base.free b o e n hx)
  · obtain ⟨o', e1⟩ := I.base.there b o e hx
    exact there b o' (neC b o e hx) e1
  · obtain ⟨m1, e1⟩ := I.base.tbls b ps e
    obtain ⟨m2, e2⟩ := tbls b _ e1
    exact ⟨m1 ++ m2, by rw [e2, Array.append_assoc]⟩
  · obtain ⟨m, hn, hl⟩ := I.loc
    refine ⟨m, ns m hn, fun i x v e1 e2 e3 => ?_⟩
    obtain ⟨u, r, l⟩ := hl i x v e1 e2 e3
    refine ⟨u, r, ?_⟩
    rcases l with l | ⟨k, c, e, z⟩
    · exact .inl l
    · exact .inr ⟨k, c, e, cellK x c e _ z⟩
  · obtain ⟨v, z⟩ := I.cell x c e
    exact ⟨v, cellK x c e v z⟩
  · obtain ⟨m, ⟨o, _, _, ho, _⟩, _⟩ := I.loc
    exact free _ o (fun z => (hch _ z).2.1 rfl) ho I.free
  · obtain ⟨v, o, ho, hd⟩ := I.cell x c e
    exact free c o (fun z => (hch c z).2.2.1 x c e rfl) ho (I.freeC x c e)
  · obtain ⟨e, n, ne, nf, d⟩ := I.pin p hp
    have nch : p.1 ∉ ch := fun z => (hch p.1 z).2.2.2 p hp rfl
    exact ⟨keep p.1 p.2 ne nf nch e n, free p.1 p.2 nch e n, ne, nf, d⟩
/-- .. where the frame's own object is kept too -/
theorem Inv.un {t' : Nat} (I : Inv X pins σ H s) (u : Un X.fs [] H H' s.heap h') (hok : HOk X.prog X.w H' h') : Inv X pins σ H' { s with heap := h', toks := t' } := by
  obtain ⟨m, ⟨o, es, ep, ho, r⟩, _⟩ := id I.loc
  obtain ⟨sl, hL⟩ := u.any ho I.free (by simp)
  exact I.step (g' := s.gens) (d' := s.drawn) (ch := []) (fun _ z => nomatch z) (fun b o _ hb _ e n => u.keep b o e n hb (by simp)) (fun b o _ hb _ e n => u.slot b o e n hb (by simp)) (fun b o _ e n => u.free b o e n (by simp)) (fun b o _ e => u.there b o e (by simp)) u.tups u.frzs u.tbls (fun m' hm => by
    obtain ⟨o', es', ep', ho', r'⟩ := hm
    rw [ho] at ho'; cases ho'
    exact ⟨_, es', ep', hL, r'⟩) hok I.bare
/-- behind a call (or a comprehension's block): the slots of this frame may have changed too, the records at ch may have turned -/
theorem Inv.call {g' : Array GenState} {t' : Nat} {d' : Drawn} {ch : List Addr} (I : Inv X pins σ H s) (u : Un (frs X.stack) ch H H' s.heap h') (hok : HOk X.prog X.w H' h') (hg : AllBare g')
    (hch : ∀ b ∈ ch, (b ∈ X.ex ∨ X.s₀.heap.objs.size ≤ b) ∧ b ≠ X.env.locals ∧ (∀ x c, X.env.cells.lookup x = some c → c ≠ b) ∧ ∀ p ∈ X.pn ++ pins, p.1 ≠ b) :
    Inv X pins σ H' { s with heap := h', gens := g', drawn := d', toks := t' } := by
  obtain ⟨m, ⟨o, es, ep, ho, r⟩, _⟩ := id I.loc
  obtain ⟨sl, hL⟩ := u.any ho I.free fun z => (hch _ z).2.1 rfl
  exact I.step (ch := ch) hch (fun b o hL hb hc e n => u.keep b o e n (fun z => (List.mem_cons.mp (I.stkSub b z)).elim hL hb) hc) (fun b o _ _ hc e n => u.any e n hc) (fun b o hc e n => u.free b o e n hc) (fun b o hc e => u.there b o e hc) u.tups u.frzs u.tbls (fun m' hm => by
    obtain ⟨o', es', ep', ho', r'⟩ := hm
    rw [ho] at ho'; cases ho'
    exact ⟨_, es', ep', hL, r'⟩) hok hg
/-- an untracked record of ours (an iterator) has turned -/
theorem Inv.turned {t' : Nat} {it : Addr} (I : Inv X pins σ H s) (k : ∀ b o, b ≠ it → s.heap.get? b = some o → h'.get? b = some o) (hn : H it = none) (hL : it ≠ X.env.locals)
    (h1 : it ∈ X.ex ∨ X.s₀.heap.objs.size ≤ it) (h2 : ∀ x c, X.env.cells.lookup x = some c → c ≠ it) (h3 : ∀ p ∈ X.pn ++ pins, p.1 ≠ it) : Inv X pins σ H { s with heap := h', toks := t' } := by
  have nit : ∀ b u, H b = some u → b ≠ it := fun b u e z => by rw [z, hn] at e; cases e
  refine I.step (g' := s.gens) (d' := s.drawn) (ch := [it]) (fun b hb => ?_) (fun b o _ _ hc e _ => k b o (fun z => hc (by simp [z])) e) (fun b o _ _ hc e _ => ⟨o.slots, k b o (fun z => hc (by simp [z])) e⟩) (fun _ _ _ _ n => n)
    (fun b o hc e => ⟨o, k b o (fun z => hc (by simp [z])) e⟩) (fun _ _ e => e) (fun _ _ _ e => e) (fun b ps e => ⟨#[], by rw [e]; simp⟩) (fun m hm => ?_) (fun b u e => ?_) I.bare
  · have e : b = it := by simpa using hb
    subst e
    exact ⟨h1, hL, h2, h3⟩
  · obtain ⟨o, es, ep, ho, r⟩ := hm
    exact ⟨o, es, ep, k _ o (Ne.symm hL) ho, r⟩
  · refine (I.hok b u e).stay (fun c v hc q => k c v ?_ q) (fun _ q => q) fun _ _ q => q
    rcases hc with z | z
    · rw [z]; exact nit b u e
    · exact nit c _ z
theorem Inv.tok (I : Inv X pins σ H s) (t : Nat) : Inv X pins σ H { s with toks := t } := I.un (h' := s.heap) (t' := t) Un.refl I.hok
/-- all objects kept -/
theorem Inv.kept {t' : Nat} (I : Inv X pins σ H s) (k : ∀ b u, s.heap.get? b = some u → h'.get? b = some u) : Inv X pins σ H { s with heap := h', toks := t' } := I.un (Un.kept k) (I.hok.kept k)
/-- a new object laid and tracked -/
theorem Inv.laid {a : Addr} {o : HO} {t' : Nat} (I : Inv X pins σ H s) (k : ∀ b u, s.heap.get? b = some u → h'.get? b = some u) (hp : s.heap.objs.size ≤ a) (new : ObjOk X.prog X.w (upd H a o) h' a o) :
    Inv X pins σ (upd H a o) { s with heap := h', toks := t' } := I.un (Un.laid k hp (I.hok.fresh hp)) (I.hok.laid k hp new)
/-- an object written -/
theorem Inv.write {x e : Addr} {o : HO} {t' : Nat} (I : Inv X pins σ H s) (mu : Mut (H x)) (he : e = x ∨ H e = some (.own x)) (k : ∀ b u, b ≠ e → s.heap.get? b = some u → h'.get? b = some u) (heo : ∃ u, h'.get? e = some u)
    (new : ObjOk X.prog X.w (upd H x o) h' x o) : Inv X pins σ (upd H x o) { s with heap := h', toks := t' } := I.un (Un.write mu he k heo) (I.hok.write mu he k heo new)
theorem Inv.pins_of {pins' : List (Addr × Obj)} (I : Inv X pins σ H s) (h : ∀ p ∈ pins', s.heap.get? p.1 = some p.2 ∧ H p.1 = none ∧ p.1 ≠ X.env.locals ∧ p.1 ∉ X.fs ∧ ∀ v, p.2.data ≠ .cell v) : Inv X pins' σ H s :=
  ⟨I.ok, I.os, I.bare, I.base, I.loc, I.cell, I.free, I.freeC, fun p hp => (List.mem_append.mp hp).elim (fun z => I.pin p (List.mem_append_left _ z)) (h p), I.hok, I.len⟩

theorem nodup_ix {N : List Str} (hN : N.Nodup) {i j : Nat} {x : Str} (a : N[i]? = some x) (b : N[j]? = some x) : i = j := by
  obtain ⟨h1, e1⟩ := List.getElem?_eq_some_iff.mp a
  obtain ⟨h2, e2⟩ := List.getElem?_eq_some_iff.mp b
  exact (List.getElem_inj hN).mp (e1.trans e2.symm)

/-- a name is stored; what changed -/
theorem store_ok2 {M : Model} {A : Around} {E : Value → Shared → Prop} {i : Nat} {x : Str} {v : V} {u : Value} {Q : Unit → Shared → Prop} (I : Inv X pins σ H s) (hN : X.N.Nodup) (hi : X.N[i]? = some x) (hx : Loc X.env.scope x) (r : RelV v u)
    (h : ∀ s', Inv X pins (σ.set i (some v)) H s' → (∃ a, Heap.SameBut a s.heap s'.heap ∧ (a = X.env.locals ∨ X.env.cells.lookup x = some a)) → Q () s') (hf : X.fn x = true ∨ X.env.scope.names.lookup x = some .local := by first | exact .inl rfl | exact .inr rfl | assumption) : wpAny M A (storeName X.env x u) Q E s := by
  obtain ⟨m, hn, hl⟩ := id I.loc
  have hcls : (X.env.scope.kind == .class || (X.env.scope.kind == .module && X.env.locals != X.env.globals)) = false := by rw [I.ok.kind]; rfl
  have hiσ : i < σ.length := by rw [I.len]; exact (List.getElem?_eq_some_iff.mp hi).1
  have cne := I.cne
  have tracked : ∀ {a : Addr} {h' : Heap}, (∃ o, s.heap.get? a = some o ∧ H a = none) → Heap.SameBut a s.heap h' → HOk X.prog X.w H h' := fun {a h'} ha hs b ob e => by
    obtain ⟨_, _, hfree⟩ := ha
    refine (I.hok b ob e).stay (fun c w' hc q => (hs.2 c ?_).trans q) (fun _ q => q) fun _ _ q => q
    rintro rfl
    rcases hc with rfl | hc
    · rw [hfree] at e; cases e
    · rw [hfree] at hc; cases hc
  rcases hx with hk | hk
  · refine wpAny_storeName_local hk hn (fun h' hn' hs => ?_) hcls
    obtain ⟨oL, _, _, hoL, _⟩ := id hn
    refine h _ ⟨I.ok, I.os, I.bare, ⟨fun b o e n hb hx => ?_, fun b o e n hb hx => ?_, I.base.free, fun b o e hx => ?_, I.base.tups, I.base.frzs, I.base.tbls⟩, ⟨_, hn', fun j y v' e1 e2 e3 => ?_⟩, fun y c e => ?_, I.free, I.freeC, fun p hp => ?_, tracked ⟨oL, hoL, I.free⟩ hs, by simpa using I.len⟩ ⟨_, hs, .inl rfl⟩
    · exact (hs.2 b (Nat.ne_of_lt (Nat.lt_of_lt_of_le (Heap.lt_size e) I.ok.above))).trans (I.base.keep b o e n hb hx)
    · obtain ⟨sl, e1⟩ := I.base.slot b o e n hb hx
      exact ⟨sl, (hs.2 b (Nat.ne_of_lt (Nat.lt_of_lt_of_le (Heap.lt_size e) I.ok.above))).trans e1⟩
    · obtain ⟨o', e1⟩ := I.base.there b o e hx
      exact ⟨o', (hs.2 b (Nat.ne_of_lt (Nat.lt_of_lt_of_le (Heap.lt_size e) I.ok.above))).trans e1⟩
    · by_cases hj : j = i
      · subst hj
        rw [hi] at e1; cases e1
        rw [List.getElem?_set_self hiσ] at e2
        cases e2
        exact ⟨u, r, .inl ⟨hk, by simp⟩⟩
      · rw [List.getElem?_set_ne (Ne.symm hj)] at e2
        obtain ⟨u', r', q⟩ := hl j y v' e1 e2 e3
        refine ⟨u', r', ?_⟩
        rcases q with ⟨k, e⟩ | ⟨k, c, e, z⟩
        · refine .inl ⟨k, ?_⟩
          have : y ≠ x := fun e => hj (nodup_ix hN e1 (e ▸ hi))
          simp [this, e]
        · exact .inr ⟨k, c, e, z.sameBut hs (cne y c e)⟩
    · obtain ⟨w', z⟩ := I.cell y c e
      exact ⟨w', z.sameBut hs (cne y c e)⟩
    · obtain ⟨e, n, ne, nf, d⟩ := I.pin p hp
      exact ⟨(hs.2 p.1 ne).trans e, n, ne, nf, d⟩
  · have hfn : X.fn x = true := by
      rcases hf with z | z
      · exact z
      · rw [z] at hk; cases hk
    obtain ⟨c, hc⟩ := I.ok.has x (.inl hk)
    obtain ⟨w', z⟩ := I.cell x c hc
    refine wpAny_storeName_cell I.ok.kind hk hc z (fun h' hc' hs => ?_)
    obtain ⟨oc, hoc, hocd⟩ := id z
    refine h { s with heap := h' } ⟨I.ok, I.os, I.bare, ⟨fun b o e n hb hx => ?_, fun b o e n hb hx => ?_, I.base.free, fun b o e hx => ?_, I.base.tups, I.base.frzs, I.base.tbls⟩, ⟨m, hn.sameBut hs (Ne.symm (cne x c hc)), fun j y v' e1 e2 e3 => ?_⟩, fun y c' e => ?_, I.free, I.freeC, fun p hp => ?_, tracked ⟨oc, hoc, I.freeC x c hc⟩ hs, by simpa using I.len⟩ ⟨c, hs, .inr hc⟩
    · exact (hs.2 b (Nat.ne_of_lt (Nat.lt_of_lt_of_le (Heap.lt_size e) (I.ok.cab x c hfn hc)))).trans (I.base.keep b o e n hb hx)
    · obtain ⟨sl, e1⟩ := I.base.slot b o e n hb hx
      exact ⟨sl, (hs.2 b (Nat.ne_of_lt (Nat.lt_of_lt_of_le (Heap.lt_size e) (I.ok.cab x c hfn hc)))).trans e1⟩
    · obtain ⟨o', e1⟩ := I.base.there b o e hx
      exact ⟨o', (hs.2 b (Nat.ne_of_lt (Nat.lt_of_lt_of_le (Heap.lt_size e) (I.ok.cab x c hfn hc)))).trans e1⟩
    · by_cases hj : j = i
      · subst hj
        rw [hi] at e1; cases e1
        rw [List.getElem?_set_self hiσ] at e2
        cases e2
        exact ⟨u, r, .inr ⟨.inl hk, c, hc, hc'⟩⟩
      · rw [List.getElem?_set_ne (Ne.symm hj)] at e2
        obtain ⟨u', r', q⟩ := hl j y v' e1 e2 e3
        refine ⟨u', r', ?_⟩
        rcases q with q | ⟨k, c', e, z'⟩
        · exact .inl q
        · refine .inr ⟨k, c', e, z'.sameBut hs ?_⟩
          rintro rfl
          exact hj (nodup_ix hN e1 (I.ok.inj _ _ _ e hc ▸ hi))
    · by_cases hcc : c' = c
      · subst hcc; exact ⟨_, hc'⟩
      · obtain ⟨w2, z2⟩ := I.cell y c' e
        exact ⟨w2, z2.sameBut hs hcc⟩
    · obtain ⟨e, n, ne, nf, d⟩ := I.pin p hp
      refine ⟨(hs.2 p.1 ?_).trans e, n, ne, nf, d⟩
      intro q
      rw [q, hoc] at e
      have q' : oc = p.2 := Option.some.inj e
      exact d w' (by rw [← q']; exact hocd)
theorem store_ok {M : Model} {A : Around} {E : Value → Shared → Prop} {i : Nat} {x : Str} {v : V} {u : Value} {Q : Unit → Shared → Prop} (I : Inv X pins σ H s) (hN : X.N.Nodup) (hi : X.N[i]? = some x) (hx : Loc X.env.scope x) (r : RelV v u)
    (h : ∀ s', Inv X pins (σ.set i (some v)) H s' → Q () s') (hf : X.fn x = true ∨ X.env.scope.names.lookup x = some .local := by first | exact .inl rfl | exact .inr rfl | assumption) : wpAny M A (storeName X.env x u) Q E s :=
  store_ok2 I hN hi hx r (fun s' I' _ => h s' I') hf
/-- behind a call or a block, the state as it is -/
theorem Inv.call' {s' : Shared} {ch : List Addr} (I : Inv X pins σ H s) (ho : s'.os = s.os) (u : Un (frs X.stack) ch H H' s.heap s'.heap) (hok : HOk X.prog X.w H' s'.heap) (hg : AllBare s'.gens)
    (hch : ∀ b ∈ ch, (b ∈ X.ex ∨ X.s₀.heap.objs.size ≤ b) ∧ b ≠ X.env.locals ∧ (∀ x c, X.env.cells.lookup x = some c → c ≠ b) ∧ ∀ p ∈ X.pn ++ pins, p.1 ≠ b) : Inv X pins σ H' s' := by
  obtain ⟨h', g', d', t', o'⟩ := s'
  have e : o' = s.os := ho
  subst e
  exact I.call (g' := g') (t' := t') (d' := d') u hok hg hch
end

/-! ### the judgements -/
/-- an exception: its class, its own dict's address (where it has one), the abstract heap behind it -/
abbrev XK := Value → Option Addr → Hp → Prop
abbrev St := List (Option V)
abbrev VK := V → Hp → Prop
/-- an expression's reading; a test's; an argument list's -/
abbrev TE := St → Hp → VK → Prop
abbrev TT := St → Hp → (Bool → Hp → Prop) → Prop
abbrev TA := St → Hp → (List V → Hp → Prop) → Prop
/-- what is wanted behind a statement -/
structure Ends where
  nx : St → Hp → Prop
  rt : VK
  bk : St → Hp → Prop := fun _ _ => False
  ct : St → Hp → Prop := fun _ _ => False
abbrev TS := Ends → St → Hp → Prop

def EP (X : Cx) (pins : List (Addr × Obj)) (σ : St) (Q : VK) (u : Value) (s' : Shared) : Prop := ∃ v H', Inv X pins σ H' s' ∧ RelV v u ∧ Q v H'
def TP (X : Cx) (pins : List (Addr × Obj)) (σ : St) (Q : Bool → Hp → Prop) (b : Bool) (s' : Shared) : Prop := ∃ H', Inv X pins σ H' s' ∧ Q b H'
def AP (X : Cx) (pins : List (Addr × Obj)) (σ : St) (Q : List V → Hp → Prop) (us : List Value) (s' : Shared) : Prop := ∃ vs H', Inv X pins σ H' s' ∧ Vals vs us ∧ Q vs H'
def SP (X : Cx) (pins : List (Addr × Obj)) (D : Ends) (f : Flow) (s' : Shared) : Prop :=
  match f with
  | .next => ∃ σ' H', Inv X pins σ' H' s' ∧ D.nx σ' H'
  | .brk => ∃ σ' H', Inv X pins σ' H' s' ∧ D.bk σ' H'
  | .cont => ∃ σ' H', Inv X pins σ' H' s' ∧ D.ct σ' H'
  | .ret u => ∃ v σ' H', Inv X pins σ' H' s' ∧ RelV v u ∧ D.rt v H'

def PE (X : Cx) (e : Expr) (t : TE) : Prop :=
  ∀ (pins : List (Addr × Obj)) (s : Shared) (σ : St) (H : Hp) (Q : VK), Inv X pins σ H s → t σ H Q → wpAny (model X.prog X.w) X.A (eval e X.env) (EP X pins σ Q) X.xe s
def PT (X : Cx) (e : Expr) (t : TT) : Prop :=
  ∀ (pins : List (Addr × Obj)) (s : Shared) (σ : St) (H : Hp) (Q : Bool → Hp → Prop), Inv X pins σ H s → t σ H Q → wpAny (model X.prog X.w) X.A (isTrue e X.env (eval e X.env)) (TP X pins σ Q) X.xe s
/-- a test whatever its 'whole' is (and, or) -/
def PW (X : Cx) (e : Expr) (t : TT) : Prop :=
  ∀ (whole : Sem Value) (pins : List (Addr × Obj)) (s : Shared) (σ : St) (H : Hp) (Q : Bool → Hp → Prop), Inv X pins σ H s → t σ H Q → wpAny (model X.prog X.w) X.A (isTrue e X.env whole) (TP X pins σ Q) X.xe s
theorem PW.pt {X : Cx} {e : Expr} {t : TT} (h : PW X e t) : PT X e t := h _
/-- an argument list (no star), from the left -/
def PA (X : Cx) (es : List Expr) (t : TA) : Prop :=
  ∀ (pos : Pos) (pins : List (Addr × Obj)) (s : Shared) (σ : St) (H : Hp) (Q : List V → Hp → Prop), Inv X pins σ H s → t σ H Q → wpAny (model X.prog X.w) X.A (spliced (backTo pos (starEach es X.env))) (AP X pins σ Q) X.xe s
def PS (X : Cx) (st : Stmt) (t : TS) : Prop :=
  ∀ (pins : List (Addr × Obj)) (s : Shared) (σ : St) (H : Hp) (D : Ends), Inv X pins σ H s → t D σ H → wpAny (model X.prog X.w) X.A (exec st X.env) (SP X pins D) X.xe s
def PSs (X : Cx) (st : List Stmt) (t : TS) : Prop :=
  ∀ (pins : List (Addr × Obj)) (s : Shared) (σ : St) (H : Hp) (D : Ends), Inv X pins σ H s → t D σ H → wpAny (model X.prog X.w) X.A (execs st X.env) (SP X pins D) X.xe s
/-- weaken the end -/
theorem thn {α : Type} {t : Sem α} {Q Q' : α → Shared → Prop} {M : Model} {A : Around} {E : Value → Shared → Prop} {s : Shared} (h : wpAny M A t Q E s) (hQ : ∀ a s, Q a s → Q' a s) : wpAny M A t Q' E s := wpAny_mono h hQ fun _ _ x => x
end L2

namespace L2
open PySem PySem.Spec PyProof.Rows
section
variable {X : Cx}

/-- two expressions in a row -/
theorem bin {a b : Expr} {ta tb : TE} (ha : PE X a ta) (hb : PE X b tb) {pins : List (Addr × Obj)} {s : Shared} {σ : St} {H : Hp} {R : V → V → Hp → Prop} (I : Inv X pins σ H s) (h : ta σ H fun x H1 => tb σ H1 fun y H2 => R x y H2)
    {α : Type} {Q : α → Shared → Prop} {f : Value → Value → Sem α}
    (hf : ∀ v u s2 x y H2, Inv X pins σ H2 s2 → RelV x v → RelV y u → R x y H2 → wpAny (model X.prog X.w) X.A (f v u) Q X.xe s2) :
    wpAny (model X.prog X.w) X.A (eval a X.env) (fun v s₁ => wpAny (model X.prog X.w) X.A (eval b X.env) (fun u s₂ => wpAny (model X.prog X.w) X.A (f v u) Q X.xe s₂) X.xe s₁) X.xe s := by
  refine thn (ha pins s σ H _ I h) fun v s1 ⟨x, H1, I1, r1, q1⟩ => ?_
  refine thn (hb pins s1 σ H1 _ I1 q1) fun u s2 ⟨y, H2, I2, r2, q2⟩ => ?_
  exact hf v u s2 x y H2 I2 r1 r2 q2

/-! ### names and constants -/
def tVar (i : Nat) : TE := fun σ H Q => ∃ v, σ[i]? = some (some v) ∧ Q v H
def tC (v : V) : TE := fun _ H Q => Q v H
theorem pe_var {i : Nat} {x : Str} {pos : Pos} (hN : X.N[i]? = some x) (hv : Vis X.env.scope x) (hd : (x == ("__debug__" : Str)) = false := by decide) (hcd : (x == ("__classdict__" : Str)) = false := by decide) : PE X (.Name x pos) (tVar i) := by
  intro pins s σ H Q I h
  obtain ⟨v, e, h⟩ := h
  obtain ⟨m, hn, hl⟩ := I.loc
  obtain ⟨u, r, l⟩ := hl i x v hN e hv
  have fin : EP X pins σ Q u s := ⟨v, H, I, r, h⟩
  rcases l with ⟨hk, hm⟩ | ⟨hk, c, hc, hcell⟩
  · exact wpAny_Name (wpAny_loadName_local I.ok.kind hk hn hm fin) hd
  · rcases hk with hk | hk
    · exact wpAny_Name (wpAny_loadName_cell I.ok.kind hk hc hcell fin) hd
    · exact wpAny_Name (wpAny_loadName_free I.ok.kind hk hc hcell fin hcd) hd
theorem pe_int {i j pos} : PE X (.Constant (.int i) j pos) (tC (.int i)) := fun _ _ _ H _ I h => wpAny_Constant_int ⟨.int i, H, I.tok _, ⟨_, rfl⟩, h⟩
theorem pe_bl {b j pos} : PE X (.Constant (.bool b) j pos) (tC (.bl b)) := fun _ _ _ H _ I h => Constant_bool ⟨.bl b, H, I, rfl, h⟩
theorem pe_non {j pos} : PE X (.Constant .none j pos) (tC .non) := fun _ _ _ H _ I h => Constant_none ⟨.non, H, I, rfl, h⟩
theorem pe_str {x j pos} : PE X (.Constant (.str x) j pos) (tC (.str x)) := fun _ _ _ H _ I h => Calls.Constant_str ⟨.str x, H, I.tok _, ⟨_, rfl⟩, h⟩

/-- a global name of the def -/
def Gl (X : Cx) (x : Str) : Prop := X.env.kindOf x = some .globalImplicit
theorem ld_glob {E : Value → Shared → Prop} {pins : List (Addr × Obj)} {s : Shared} {σ : St} {H : Hp} {x : Str} {u : Value} {pos : Pos} {Q : Value → Shared → Prop} (I : Inv X pins σ H s) (hg : Gl X x) (hm : X.mg x = some u) (h : Q u s)
    (hd : (x == ("__debug__" : Str)) = false := by decide) : wpAny (model X.prog X.w) X.A (eval (.Name x pos) X.env) Q E s :=
  Calls.Name_function_global I.ok.kind hg (Calls.loadGlobal_global (by rw [I.ok.glob]; exact I.mod.glob.keeps I.bk) hm h) hd
theorem ld_blt {E : Value → Shared → Prop} {pins : List (Addr × Obj)} {s : Shared} {σ : St} {H : Hp} {x : Str} {u : Value} {pos : Pos} {Q : Value → Shared → Prop} (I : Inv X pins σ H s) (hg : Gl X x) (hm : X.mg x = none) (hv : bootBuiltins x = some u) (h : Q u s)
    (hn : x ≠ "__name__" := by decide) (hd : (x == ("__debug__" : Str)) = false := by decide) : wpAny (model X.prog X.w) X.A (eval (.Name x pos) X.env) Q E s := by
  obtain ⟨mb, h1, h2⟩ := I.mod.blt
  exact Calls.Name_function_global I.ok.kind hg (Calls.loadGlobal_builtin (by rw [I.ok.glob]; exact I.mod.glob.keeps I.bk) hm (by rw [I.ok.blt]; exact h1.keeps I.bk) ((h2 x hn).trans hv) h) hd
theorem pe_bltn {x : Str} {v : V} {u : Value} {pos : Pos} (hg : Gl X x) (hm : X.mg x = none) (hv : bootBuiltins x = some u) (r : RelV v u) (hn : x ≠ "__name__" := by decide) (hd : (x == ("__debug__" : Str)) = false := by decide) : PE X (.Name x pos) (tC v) :=
  fun _ _ _ H _ I h => ld_blt I hg hm hv ⟨v, H, I, r, h⟩ hn hd

/-! ### arithmetic -/
variable {a b : Expr} {ta tb : TE} {pos : Pos}

/-! ### comparisons -/

/-! ### and, or, not -/
variable {tA tB' : TT} {rest : List Expr}
def tAnd (t u : TT) : TT := fun σ H Q => t σ H fun c H1 => if c = true then u σ H1 Q else Q false H1
def tOr (t u : TT) : TT := fun σ H Q => t σ H fun c H1 => if c = true then Q true H1 else u σ H1 Q
def tNot (t : TT) : TT := fun σ H Q => t σ H fun c H1 => Q (!c) H1
theorem pw_and1 (ha : PT X a tA) : PW X (.BoolOp .And [a] pos) tA := by
  intro wh pins s σ H Q I h
  refine isTrue_and (thn (ha pins s σ H Q I h) fun c s1 e => ?_)
  cases c with
  | true => exact isTrue_and_nil e
  | false => exact e
theorem pw_or1 (ha : PT X a tA) : PW X (.BoolOp .Or [a] pos) tA := by
  intro wh pins s σ H Q I h
  refine isTrue_or (thn (ha pins s σ H Q I h) fun c s1 e => ?_)
  cases c with
  | false => exact isTrue_or_nil e
  | true => exact e
theorem pw_and (ha : PT X a tA) (hb : PW X (.BoolOp .And (b :: rest) pos) tB') : PW X (.BoolOp .And (a :: b :: rest) pos) (tAnd tA tB') := by
  intro wh pins s σ H Q I h
  refine isTrue_and (thn (ha pins s σ H _ I h) fun c s1 ⟨H1, I1, q1⟩ => ?_)
  cases c with
  | true => exact hb wh pins s1 σ H1 Q I1 q1
  | false => exact ⟨H1, I1, q1⟩
theorem pw_or (ha : PT X a tA) (hb : PW X (.BoolOp .Or (b :: rest) pos) tB') : PW X (.BoolOp .Or (a :: b :: rest) pos) (tOr tA tB') := by
  intro wh pins s σ H Q I h
  refine isTrue_or (thn (ha pins s σ H _ I h) fun c s1 ⟨H1, I1, q1⟩ => ?_)
  cases c with
  | true => exact ⟨H1, I1, q1⟩
  | false => exact hb wh pins s1 σ H1 Q I1 q1
theorem pt_not (ha : PT X a tA) : PT X (.UnaryOp .Not a pos) (tNot tA) := by
  intro pins s σ H Q I h
  exact isTrue_not (ha pins s σ H (fun c H1 => Q (!c) H1) I h)
def tOrV (ta tb : TE) : TE := fun σ H Q => ta σ H fun x H1 => ∃ c, x = .bl c ∧ if c = true then Q (.bl true) H1 else tb σ H1 Q
theorem pe_one {op} {t : TE} (h : PE X a t) : PE X (.BoolOp op [a] pos) t := fun pins s σ H Q I hw => BoolOp_one (h pins s σ H Q I hw)
theorem pe_or (ha : PE X a ta) (hb : PE X (.BoolOp .Or (b :: rest) pos) tb) : PE X (.BoolOp .Or (a :: b :: rest) pos) (tOrV ta tb) := by
  intro pins s σ H Q I h
  refine BoolOp_or (thn (ha pins s σ H _ I h) fun v s1 ⟨x, H1, I1, r1, q1⟩ => ?_)
  obtain ⟨c, rfl, q1⟩ := q1
  cases r1
  refine wpAny_truthy_bool ?_
  cases c with
  | false => exact hb pins s1 σ H1 Q I1 q1
  | true => exact ⟨.bl true, H1, I1, rfl, q1⟩
end
end L2

namespace L2
open PySem PySem.Spec PyProof.Rows

/-! ### a list, a tuple that is read: tracked, frozen, or an object of the module -/
def SqL (K : PySem.W.Frag) (H : Hp) (a : Addr) (xs : List V) : Prop :=
  Rd H a (.lst xs) ∨
    ∃ (o : Obj) (its : Array Value) (n : Nat), K.lookup a = some o ∧ o.cls = .type "list" ∧ o.dict = none ∧ o.data = .seq its n ∧ its.size ≤ sizeLine ∧ Vals xs its.toList
def SqT (K : PySem.W.Frag) (H : Hp) (a : Addr) (xs : List V) : Prop :=
  Rd H a (.tup xs) ∨
    ∃ (o : Obj) (its : Array Value) (n : Nat), K.lookup a = some o ∧ o.cls = .type "tuple" ∧ o.data = .seq its n ∧ its.size ≤ sizeLine ∧ Vals xs its.toList
def absV : Value → Option V
  | .none => some .non
  | .bool b => some (.bl b)
  | .int i _ => some (.int i)
  | .str x _ => some (.str x)
  | .bytes b _ => some (.byt b)
  | .float b _ => some (.flt b)
  | .ref a => some (.ref a)
  | .type n => some (.ty n)
  | _ => none
theorem RelV.abs {x : V} {u : Value} (r : RelV x u) : absV u = some x := by
  cases x with
  | non => cases r; rfl
  | bl _ => cases r; rfl
  | int _ => obtain ⟨t, rfl⟩ := r; rfl
  | str _ => obtain ⟨t, rfl⟩ := r; rfl
  | byt _ => obtain ⟨t, rfl⟩ := r; rfl
  | flt _ => obtain ⟨t, rfl⟩ := r; rfl
  | ref _ => cases r; rfl
  | ty _ => cases r; rfl
theorem RelV.inj {x y : V} {u : Value} (r : RelV x u) (q : RelV y u) : x = y := Option.some.inj (r.abs.symm.trans q.abs)
theorem Vals.inj : ∀ {xs ys : List V} {us : List Value}, Vals xs us → Vals ys us → xs = ys
  | _, _, _, .nil, .nil => rfl
  | _, _, _, .cons r t, .cons r' t' => by rw [r.inj r', Vals.inj t t']
section
variable {X : Cx} {pins : List (Addr × Obj)} {σ : St} {H : Hp} {s : Shared} {a : Addr} {xs ys : List V}
theorem SqL.of {K : PySem.W.Frag} (h : H a = some (.lst xs)) : SqL K H a xs := .inl (.inl h)
theorem SqT.of {K : PySem.W.Frag} (h : H a = some (.tup xs)) : SqT K H a xs := .inl (.inl h)
theorem Inv.list (I : Inv X pins σ H s) (h : SqL X.K H a xs) : ∃ its : List Value, Vals xs its ∧ PlainL s.heap a its.toArray ∧ xs.length ≤ sizeLine := by
  rcases h with h | ⟨o, its, n, hk, hc, hd, hs, hz, r⟩
  · obtain ⟨z, its, n, r, e⟩ := h.ok I.hok
    exact ⟨its, r, ⟨_, n, e, rfl, rfl, rfl⟩, z⟩
  · refine ⟨its.toList, r, ⟨o, n, I.kIn a o hk, hc, hd, by simpa using hs⟩, ?_⟩
    have e := r.length
    simp only [Array.length_toList] at e
    omega
theorem Inv.tuple (I : Inv X pins σ H s) (h : SqT X.K H a xs) : ∃ its : List Value, Vals xs its ∧ IsTup s.heap a its.toArray ∧ xs.length ≤ sizeLine := by
  rcases h with h | ⟨o, its, n, hk, hc, hs, hz, r⟩
  · obtain ⟨z, its, r, p⟩ := h.ok I.hok
    exact ⟨its, r, p, z⟩
  · refine ⟨its.toList, r, ⟨o, I.kIn a o hk, hc, n, by simpa using hs⟩, ?_⟩
    have e := r.length
    simp only [Array.length_toList] at e
    omega
theorem Inv.list_inj (I : Inv X pins σ H s) (h : SqL X.K H a xs) (h' : SqL X.K H a ys) : xs = ys := by
  obtain ⟨its, r, ⟨o, n, e, _, _, d⟩, _⟩ := I.list h
  obtain ⟨its', r', ⟨o', n', e', _, _, d'⟩, _⟩ := I.list h'
  rw [e] at e'; cases e'
  rw [d] at d'
  injection d' with d1 _
  have : its = its' := by simpa using congrArg Array.toList d1
  subst this
  exact r.inj r'
end

/-! ### another wish about exceptions -/
abbrev Cx.wish (X : Cx) (E : Value → Shared → Prop) : Cx := { X with xe := E }
/-- no exception leaves -/
abbrev Cx.nox (X : Cx) : Cx := X.wish fun _ _ => False
theorem Cx.Ok.wish {X : Cx} (ok : X.Ok) (E : Value → Shared → Prop) : (X.wish E).Ok :=
  ⟨ok.mod, ok.kind, ok.glob, ok.blt, ok.above, ok.inj, ok.has, ok.cab, ok.hd, ok.frames, ok.stk, ok.exf, ok.bs, ok.bsz, ok.noex, ok.exfs, ok.funs, ok.frf⟩
theorem Cx.Ok.unwish {X : Cx} {E : Value → Shared → Prop} (ok : (X.wish E).Ok) : X.Ok :=
  ⟨ok.mod, ok.kind, ok.glob, ok.blt, ok.above, ok.inj, ok.has, ok.cab, ok.hd, ok.frames, ok.stk, ok.exf, ok.bs, ok.bsz, ok.noex, ok.exfs, ok.funs, ok.frf⟩
section
variable {X : Cx} {pins : List (Addr × Obj)} {σ : St} {H : Hp} {s : Shared} {E : Value → Shared → Prop}
theorem Inv.wish (I : Inv X pins σ H s) (E : Value → Shared → Prop) : Inv (X.wish E) pins σ H s := ⟨I.ok.wish E, I.os, I.bare, I.base, I.loc, I.cell, I.free, I.freeC, I.pin, I.hok, I.len⟩
theorem Inv.unwish (I : Inv (X.wish E) pins σ H s) : Inv X pins σ H s := ⟨I.ok.unwish, I.os, I.bare, I.base, I.loc, I.cell, I.free, I.freeC, I.pin, I.hok, I.len⟩
theorem SP.unwish {D : Ends} {f : Flow} {s' : Shared} (h : SP (X.wish E) pins D f s') : SP X pins D f s' := by
  cases f with
  | next => obtain ⟨σ', H', I, q⟩ := h; exact ⟨σ', H', I.unwish, q⟩
  | brk => obtain ⟨σ', H', I, q⟩ := h; exact ⟨σ', H', I.unwish, q⟩
  | cont => obtain ⟨σ', H', I, q⟩ := h; exact ⟨σ', H', I.unwish, q⟩
  | ret u => obtain ⟨v, σ', H', I, r, q⟩ := h; exact ⟨v, σ', H', I.unwish, r, q⟩
theorem PSs.nox {st : List Stmt} {t : TS} (h : PSs X.nox st t) : PSs X st t := fun pins s σ H D I hw =>
  wpAny_mono (h pins s σ H D (I.wish _) hw) (fun _ _ q => q.unwish) fun _ _ z => False.elim z
end

/-! ### blocks and small statements -/
section
variable {X : Cx} {st : Stmt} {rest : List Stmt} {t u : TS} {e : Expr} {te : TE} {pos : Pos}
def tNext : TS := fun D σ H => D.nx σ H
def tSeq (t u : TS) : TS := fun D σ H => t { D with nx := u D } σ H
theorem pss_nil : PSs X [] tNext := fun _ _ σ H _ I h => wpAny_execs_nil ⟨σ, H, I, h⟩
theorem pss_cons (h1 : PS X st t) (h2 : PSs X rest u) : PSs X (st :: rest) (tSeq t u) := by
  intro pins s σ H D I h
  refine wpAny_execs_cons (thn (h1 pins s σ H { D with nx := u D } I h) fun f s1 q => ?_)
  cases f with
  | next =>
    obtain ⟨σ', H', I', q⟩ := q
    exact h2 pins s1 σ' H' D I' q
  | ret v => exact q
  | brk => exact q
  | cont => exact q
theorem pss_one (h1 : PS X st t) : PSs X [st] t := by
  intro pins s σ H D I h
  refine wpAny_execs_cons (thn (h1 pins s σ H D I h) fun f s1 q => ?_)
  cases f with
  | next => exact wpAny_execs_nil q
  | ret v => exact q
  | brk => exact q
  | cont => exact q
/-- in a def's body nothing is shown -/
theorem Inv.quiet {pins : List (Addr × Obj)} {σ : St} {H : Hp} {s : Shared} (I : Inv X pins σ H s) : interactive X.env = false := by simp [interactive, I.ok.kind]
/-- an expression whose value is dropped -/
def tDrop (te : TE) : TS := fun D σ H => te σ H fun _ H1 => D.nx σ H1
theorem ps_expr (he : PE X e te) (hs : swapsWith e none pos.line X.env = pure false := by rfl) : PS X (.Expr e pos) (tDrop te) := by
  intro pins s σ H D I h
  exact wpAny_Expr_any (thn (he pins s σ H _ I h) fun v s1 ⟨x, H1, I1, r1, q1⟩ => ⟨σ, H1, I1, q1⟩) I.quiet hs
def tRet (te : TE) : TS := fun D σ H => te σ H D.rt
theorem ps_ret (he : PE X e te) : PS X (.Return (some e) pos) (tRet te) := by
  intro pins s σ H D I h
  exact wpAny_Return_some (thn (he pins s σ H _ I h) fun v s1 ⟨x, H1, I1, r1, q1⟩ => ⟨x, σ, H1, I1, r1, q1⟩)
def tIfS (c : TT) (t u : TS) : TS := fun D σ H => c σ H fun b H1 => if b = true then t D σ H1 else u D σ H1
theorem ps_if {c : Expr} {a b : List Stmt} {tc : TT} (hc : PT X c tc) (ha : PSs X a t) (hb : PSs X b u) : PS X (.If c a b pos) (tIfS tc t u) := by
  intro pins s σ H D I h
  refine wpAny_If (thn (hc pins s σ H _ I h) fun d s1 ⟨H1, I1, q1⟩ => ?_)
  cases d with
  | true => exact ha pins s1 σ H1 D I1 q1
  | false => exact hb pins s1 σ H1 D I1 q1
/-- code that the proof never comes to -/
def tNever : TS := fun _ _ _ => False
theorem pss_never {sts : List Stmt} : PSs X sts tNever := fun _ _ _ _ _ _ h => h.elim
end

/-! ### targets -/
abbrev TG := V → St → Hp → (St → Hp → Prop) → Prop
abbrev TGs := List V → St → Hp → (St → Hp → Prop) → Prop
def PG (X : Cx) (target : Expr) (t : TG) : Prop :=
  ∀ (pins : List (Addr × Obj)) (s : Shared) (σ : St) (H : Hp) (v : V) (u : Value) (Q : St → Hp → Prop), Inv X pins σ H s → RelV v u → t v σ H Q →
    wpAny (model X.prog X.w) X.A (assign target X.env u) (fun _ s' => ∃ σ' H', Inv X pins σ' H' s' ∧ Q σ' H') X.xe s
/-- several targets, one after another -/
def PGs (X : Cx) (ts : List Expr) (t : TGs) : Prop :=
  ∀ (pins : List (Addr × Obj)) (s : Shared) (σ : St) (H : Hp) (vs : List V) (us : List Value) (Q : St → Hp → Prop), Inv X pins σ H s → Vals vs us → t vs σ H Q →
    wpAny (model X.prog X.w) X.A (assignInOrder ((assignEach ts X.env).map (·.2)) us) (fun _ s' => ∃ σ' H', Inv X pins σ' H' s' ∧ Q σ' H') X.xe s
section
variable {X : Cx} {pos : Pos}
def gName (i : Nat) : TG := fun v σ H Q => Q (σ.set i (some v)) H
theorem pg_name {i : Nat} {x : Str} (hN : X.N.Nodup) (hi : X.N[i]? = some x) (hx : Loc X.env.scope x) (hf : X.fn x = true ∨ X.env.scope.names.lookup x = some .local := by first | exact .inl rfl | exact .inr rfl | assumption) : PG X (.Name x pos) (gName i) := by
  intro pins s σ H v u Q I r h
  exact wpAny_assign_Name (store_ok I hN hi hx r (fun s' I' => ⟨_, H, I', h⟩) hf)
def gNil : TGs := fun vs σ H Q => vs = [] ∧ Q σ H
def gCons (t : TG) (u : TGs) : TGs := fun vs σ H Q => ∃ v r, vs = v :: r ∧ t v σ H fun σ' H' => u r σ' H' Q
theorem pgs_nil : PGs X [] gNil := by
  intro pins s σ H vs us Q I r h
  obtain ⟨e, h⟩ := h
  subst e
  cases r
  exact assignInOrder_nil ⟨σ, H, I, h⟩
theorem pgs_cons {e : Expr} {es : List Expr} {t : TG} {u : TGs} (h1 : PG X e t) (h2 : PGs X es u)
    (hs : (assignEach (e :: es) X.env).map (·.2) = assign e X.env :: (assignEach es X.env).map (·.2) := by rfl) : PGs X (e :: es) (gCons t u) := by
  intro pins s σ H vs us Q I r h
  obtain ⟨v, vr, e1, h⟩ := h
  subst e1
  cases r with
  | cons r rr =>
    rw [hs]
    refine assignInOrder_cons (thn (h1 pins s σ H _ _ _ I r h) fun _ s1 ⟨σ1, H1, I1, q1⟩ => ?_)
    exact h2 pins s1 σ1 H1 _ _ Q I1 rr q1
/-- (a, b, ..) = a tuple of that length -/
def gTup (K : PySem.W.Frag) (n : Nat) (t : TGs) : TG := fun v σ H Q => ∃ a xs, v = .ref a ∧ SqT K H a xs ∧ xs.length = n ∧ t xs σ H Q
theorem pg_tup {es : List Expr} {k : Nat} {t : TGs} {n : Nat} (hc : X.calm = true) (h : PGs X es t)
    (hn : (assignEach es X.env).length = n := by rfl) (hst : (assignEach es X.env).findIdx? (·.1) = none := by rfl) : PG X (.Tuple es k pos) (gTup X.K n t) := by
  intro pins s σ H v u Q I r hw
  obtain ⟨a, xs, e1, hq, hl, hw⟩ := hw
  subst e1
  cases r
  obtain ⟨its, rv, ht, hz⟩ := I.tuple hq
  refine assign_Tuple_tuple (I.ok.hd hc) ht (by simp [hn, ← hl, rv.length]) hst fun h' hx => ?_
  have I1 : Inv X pins σ H { s with heap := h' } := I.kept (t' := s.toks) fun b o e => hx b o (Nat.ne_of_lt (Heap.lt_size e)) e
  exact h pins _ σ H xs _ Q I1 (by simpa using rv) hw
/-- target = value -/
def tAsg (te : TE) (g : TG) : TS := fun D σ H => te σ H fun x H1 => g x σ H1 D.nx
/-- name = value -/
theorem ps_set {i : Nat} {x : Str} {e : Expr} {te : TE} {pos' : Pos} (hN : X.N.Nodup) (hi : X.N[i]? = some x) (hx : Loc X.env.scope x) (he : PE X e te) (hs : swapsWith e (some (.Name x pos')) pos.line X.env = pure false := by rfl) (hf : X.fn x = true ∨ X.env.scope.names.lookup x = some .local := by first | exact .inl rfl | exact .inr rfl | assumption) :
    PS X (.Assign [.Name x pos'] e pos) (tAsg te (gName i)) := by
  intro pins s σ H D I h
  refine wpAny_Assign_Name (thn (he pins s σ H _ I h) fun v s1 ⟨y, H1, I1, r1, q1⟩ => ?_) hs
  exact store_ok I1 hN hi hx r1 (fun s2 I2 => ⟨_, H1, I2, q1⟩) hf
end

/-! ### while -/
section
variable {X : Cx} {pos : Pos}
/-- the invariant W with its measure -/
def tWhile (c : TT) (tb : TS) : TS := fun D σ H => ∃ W : Nat → St → Hp → Prop, (∃ m, W m σ H) ∧ ∀ m σ H, W m σ H →
  c σ H fun b H1 => if b = true then ∃ N : St → Hp → Prop, (∀ σ' H', N σ' H' → ∃ m', m' < m ∧ W m' σ' H') ∧ tb { D with nx := N, ct := N, bk := D.nx } σ H1 else D.nx σ H1
theorem ps_while {c : Expr} {body : List Stmt} {tc : TT} {tb : TS} (hp : PassesOwn (model X.prog X.w) X.A X.env X.xe) (hc : PT X c tc) (hb : PSs X body tb) : PS X (.While c body [] pos) (tWhile tc tb) := by
  intro pins s σ H D I h
  obtain ⟨W, ⟨m0, w0⟩, turn⟩ := h
  refine wpAny_While (codeAny_whileLoop (fun n s' => ∃ σ' H', Inv X pins σ' H' s' ∧ W n σ' H') ?_ m0 ⟨σ, H, I, w0⟩)
  rintro n s1 ⟨σ1, H1, I1, w1⟩
  refine wpAny_passesOwn hp (thn (hc pins s1 σ1 H1 _ I1 (turn n σ1 H1 w1)) fun b s2 ⟨H2, I2, q2⟩ => ?_)
  cases b with
  | true =>
    obtain ⟨N, hN, q2⟩ := q2
    rw [if_pos rfl]
    refine wpAny_passesOwn hp (thn (hb pins s2 σ1 H2 _ I2 q2) fun f s3 q3 => ?_)
    cases f with
    | next =>
      obtain ⟨σ3, H3, I3, n3⟩ := q3
      obtain ⟨m', hm, w3⟩ := hN σ3 H3 n3
      exact ⟨m', hm, σ3, H3, I3, w3⟩
    | cont =>
      obtain ⟨σ3, H3, I3, n3⟩ := q3
      obtain ⟨m', hm, w3⟩ := hN σ3 H3 n3
      exact ⟨m', hm, σ3, H3, I3, w3⟩
    | brk => exact q3
    | ret v => exact q3
  | false =>
    rw [if_neg Bool.false_ne_true]
    exact wpAny_execs_nil ⟨σ1, H2, I2, q2⟩
end

/-! ### what a loop or a comprehension walks -/
/-- at turn i: it yields x (the heap may grow), or it stops -/
structure It where
  go : Nat → Hp → Prop
  yld : Nat → Hp → V → Hp → Prop
  stop : Nat → Hp → Prop
/-- the iterator's own objects may turn: they are not the frame's, not pinned, younger than the entry (or a comprehension's own) -/
def FpOk (X : Cx) (pins : List (Addr × Obj)) (H : Hp) (b : Addr) : Prop :=
  H b = none ∧ b ≠ X.env.locals ∧ b ∉ X.fs ∧ (b ∈ X.ex ∨ X.s₀.heap.objs.size ≤ b) ∧ (∀ x c, X.env.cells.lookup x = some c → c ≠ b) ∧ ∀ p ∈ X.pn ++ pins, p.1 ≠ b
theorem Inv.fpOk {X : Cx} {pins : List (Addr × Obj)} {σ : St} {H H' : Hp} {s : Shared} {b : Addr} (I : Inv X pins σ H s) (hb : s.heap.objs.size ≤ b) (hn : H' b = none) : FpOk X pins H' b := by
  refine ⟨hn, Nat.ne_of_gt (Nat.lt_of_lt_of_le I.lt hb), I.nofs hb, .inr (Nat.le_trans I.sz hb), fun x c e z => ?_, fun p hp z => ?_⟩
  · obtain ⟨v, q⟩ := I.cell x c e
    exact absurd (Nat.lt_of_lt_of_le q.lt (by rw [z]; exact hb)) (Nat.lt_irrefl _)
  · exact absurd (Nat.lt_of_lt_of_le (Heap.lt_size (I.pin p hp).1) (by rw [z]; exact hb)) (Nat.lt_irrefl _)
structure Turn (P : Program) (w : World) (K : PySem.W.Frag) (tg : Expr) (J : It) (fp : List Addr) (it : Addr) (tn : Nat → Heap → Prop) : Prop where
  mem : it ∈ fp
  obj : ∀ i h, tn i h → ∀ b ∈ fp, ∃ o, h.get? b = some o ∧ ∀ v, o.data ≠ .cell v
  keep : ∀ i h h', tn i h → (∀ b ∈ fp, ∀ o, h.get? b = some o → h'.get? b = some o) → tn i h'
  item : ∀ (X : Cx), X.prog = P → X.w = w → X.K = K → X.calm = true → ∀ (i : Nat) (pins : List (Addr × Obj)) (s : Shared) (σ : St) (H : Hp) (E : Value → Shared → Prop), Inv X pins σ H s → (∀ b ∈ fp, FpOk X pins H b) → tn i s.heap → J.go i H →
    wpAny (model P w) X.A (pyNext (.ref it)) (fun r s1 => ∃ u, r = some u ∧
      wpAny (model P w) X.A (letOwnedTupleGo tg (.ref it) u) (fun _ s2 => ∃ x H', Inv X pins σ H' s2 ∧ RelV x u ∧ J.yld i H x H' ∧ tn (i + 1) s2.heap ∧ ∀ b ∈ fp, H' b = none) E s1) E s
  done : ∀ (X : Cx), X.prog = P → X.w = w → X.K = K → X.calm = true → ∀ (i : Nat) (pins : List (Addr × Obj)) (s : Shared) (σ : St) (H : Hp) (E : Value → Shared → Prop), Inv X pins σ H s → (∀ b ∈ fp, FpOk X pins H b) → tn i s.heap → J.stop i H →
    wpAny (model P w) X.A (pyNext (.ref it)) (fun r s1 => r = none ∧ Inv X pins σ H s1) E s
  self : ∀ (A : Around) (i : Nat) (s : Shared) (Q : Value → Shared → Prop) (E : Value → Shared → Prop), tn i s.heap → Q (.ref it) s → wpAny (model P w) A (pyIter (.ref it)) Q E s
abbrev TI := St → Hp → (It → Hp → Prop) → Prop
/-- an iterator has come -/
def PIE (X : Cx) (pins : List (Addr × Obj)) (σ : St) (tg : Expr) (R : It → Hp → Prop) (itv : Value) (s2 : Shared) : Prop :=
  ∃ (it : Addr) (fp : List Addr) (tn : Nat → Heap → Prop) (J : It) (H' : Hp), itv = .ref it ∧ Inv X pins σ H' s2 ∧ Turn X.prog X.w X.K tg J fp it tn ∧ tn 0 s2.heap ∧ (∀ b ∈ fp, FpOk X pins H' b) ∧ R J H'
def PI (X : Cx) (tg iter : Expr) (wi : TI) : Prop :=
  ∀ (pins : List (Addr × Obj)) (s : Shared) (σ : St) (H : Hp) (R : It → Hp → Prop), Inv X pins σ H s → wi σ H R →
    wpAny (model X.prog X.w) X.A (eval iter X.env) (fun v s1 => wpAny (model X.prog X.w) X.A (pyIter v) (PIE X pins σ tg R) X.xe s1) X.xe s

/-- the step ahead of the store is nothing for an iterator that keeps no tuple -/
theorem go_of {M : Model} {A : Around} {E : Value → Shared → Prop} {s : Shared} {tg : Expr} {it : Addr} {u : Value} {o : Obj} {n : String} {vs : Array Value} {Q : Unit → Shared → Prop} (ho : s.heap.get? it = some o) (hc : o.cls = .type n) (hd : o.data = .fields vs)
    (hn : ["enumerate", "zip", "dict_itemiterator", "dict_reverseitemiterator", "odict_iterator", "itertools.zip_longest", "itertools.pairwise"].contains n = false) (hQ : Q () s) : wpAny M A (letOwnedTupleGo tg (.ref it) u) Q E s := by
  unfold letOwnedTupleGo
  cases tg <;> first
    | exact wpAny_pure hQ
    | (cases u <;> first
        | exact wpAny_pure hQ
        | (refine wpAny_bind (wpAny_load ho ?_)
           rw [hc, hd]
           show wpAny M A (if (["enumerate", "zip", "dict_itemiterator", "dict_reverseitemiterator", "odict_iterator", "itertools.zip_longest", "itertools.pairwise"].contains n && vs[0]? == some (rawInt _)) = true then _ else _) Q E s
           rw [if_neg (by intro h; rw [hn, Bool.false_and] at h; cases h)]
           exact wpAny_pure hQ))

/-- the list at a, as it stands at each turn (a loop may append to it) -/
def Itl (K : PySem.W.Frag) (a : Addr) : It :=
  ⟨fun i H => ∃ xs x, SqL K H a xs ∧ xs[i]? = some x, fun i H x H' => H' = H ∧ ∀ xs, SqL K H a xs → xs[i]? = some x, fun i H => ∃ xs, SqL K H a xs ∧ xs.length ≤ i⟩
/-- lo, lo + 1, .. (n of them) -/
def Itr (lo : Int) (n : Nat) : It := ⟨fun i _ => i < n, fun i H x H' => H' = H ∧ x = .int (lo + i), fun i _ => n ≤ i⟩
theorem turn_list {P : Program} {w : World} {K : PySem.W.Frag} {tg : Expr} (a it : Addr) : Turn P w K tg (Itl K a) [it] it (fun i h => h.IsListIter it a i) where
  mem := by simp
  obj := fun i h st b hb => by
    have e : b = it := by simpa using hb
    subst e
    obtain ⟨o, e, c, d⟩ := st
    exact ⟨o, e, fun v z => by rw [d] at z; cases z⟩
  keep := fun i h h' st k => st.at fun o e => k it (by simp) o e
  item := by
    intro X hP hw hK hc i pins s σ H E I hf st hg
    subst hP hw hK
    obtain ⟨xs, x, hq, hx⟩ := hg
    obtain ⟨its, rv, p, hz⟩ := I.list hq
    obtain ⟨u, hu, ru⟩ := rv.get hx
    obtain ⟨f0, f1, f2, f3, f4, f5⟩ := hf it (by simp)
    refine wpAny_pyNext_list_item st p.isList (x := u) (by simpa using hu) fun h' st' sb => ?_
    have I1 : Inv X pins σ H { s with heap := h' } := I.turned (t' := s.toks) (fun b o hb e => (sb.2 b hb).trans e) f0 f1 f3 f4 f5
    obtain ⟨o, e, c, d⟩ := id st'
    exact ⟨u, rfl, go_of (s := { s with heap := h' }) e c d (by decide) ⟨x, H, I1, ru, ⟨rfl, fun ys hy => by rw [I.list_inj hy hq]; exact hx⟩, st', fun b hb => (hf b hb).1⟩⟩
  done := by
    intro X hP hw hK hc i pins s σ H E I hf st hg
    subst hP hw hK
    obtain ⟨xs, hq, hx⟩ := hg
    obtain ⟨its, rv, p, hz⟩ := I.list hq
    obtain ⟨f0, f1, f2, f3, f4, f5⟩ := hf it (by simp)
    have hl := rv.length
    exact wpAny_pyNext_list_end (I.ok.hd hc) st p.isList (by simp; omega) fun h' eb => ⟨rfl, I.turned (t' := s.toks) (fun b o hb e => eb b o hb e) f0 f1 f3 f4 f5⟩
  self := fun _ _ _ _ _ st h => wpAny_pyIter_listiter st h
theorem turn_range {P : Program} {w : World} {K : PySem.W.Frag} {tg : Expr} (it : Addr) (lo : Int) (n : Nat) : Turn P w K tg (Itr lo n) [it] it (fun i h => IsRangeIter h it (lo + (i : Nat) * 1) ((n : Int) - (i : Nat)) 1) where
  mem := by simp
  obj := fun i h st b hb => by
    have e : b = it := by simpa using hb
    subst e
    exact ⟨_, st, fun v z => by
      have z' : Data.fields _ = Data.cell v := z
      cases z'⟩
  keep := fun i h h' st k => k it (by simp) _ st
  item := by
    intro X hP hw hK hc i pins s σ H E I hf st hg
    subst hP hw hK
    obtain ⟨f0, f1, f2, f3, f4, f5⟩ := hf it (by simp)
    have W := Walks.range (prog := X.prog) (w := X.w) (I.ok.hd hc) it lo 1 n
    refine W.item i s _ _ hg st fun v h' tk hv st' kk => ?_
    obtain ⟨t, rfl⟩ := hv
    have I1 : Inv X pins σ H { s with heap := h', toks := tk } := I.turned (fun b o hb e => kk b o (by simpa using hb) e) f0 f1 f3 f4 f5
    refine ⟨_, rfl, go_of (s := { s with heap := h', toks := tk }) (n := "range_iterator") st' rfl rfl (by decide) ⟨.int (lo + i), H, I1, ⟨t, ?_⟩, ⟨rfl, rfl⟩, st', fun b hb => (hf b hb).1⟩⟩
    rw [Int.mul_one]
  done := by
    intro X hP hw hK hc i pins s σ H E I hf st hg
    subst hP hw hK
    obtain ⟨f0, f1, f2, f3, f4, f5⟩ := hf it (by simp)
    exact wpAny_pyNext_range_end (I.ok.hd hc) st (by have : n ≤ i := hg; omega) fun h' eb => ⟨rfl, I.turned (t' := s.toks) (fun b o hb e => eb b o hb e) f0 f1 f3 f4 f5⟩
  self := fun _ _ _ _ _ st h => wpAny_pyIter_rangeiter st h
end L2

namespace L2
open PySem PySem.Spec PyProof.Rows
section
variable {X : Cx} {tg : Expr}
def iList (K : PySem.W.Frag) (tl : TE) : TI := fun σ H R => tl σ H fun x H1 => ∃ a, x = .ref a ∧ (∃ xs, SqL K H1 a xs) ∧ R (Itl K a) H1
theorem pi_list {l : Expr} {tl : TE} (hl : PE X l tl) : PI X tg l (iList X.K tl) := by
  intro pins s σ H R I h
  refine thn (hl pins s σ H _ I h) fun v s1 ⟨x, H1, I1, r1, q1⟩ => ?_
  obtain ⟨a, e, ⟨xs, hq⟩, q⟩ := q1
  subst e
  cases r1
  obtain ⟨its, rv, p, hz⟩ := I1.list hq
  refine wpAny_pyIter_list p.isList ?_
  refine ⟨s1.heap.objs.size, [s1.heap.objs.size], _, _, H1, rfl, I1.kept (t' := s1.toks) fun b o e => Heap.get?_push_of_some _ e, turn_list a _, ⟨_, Heap.get?_push_size _ rfl, rfl, rfl⟩, fun b hb => ?_, q⟩
  have e : b = s1.heap.objs.size := by simpa using hb
  subst e
  exact I1.fpOk (Nat.le_refl _) (I1.hok.fresh (Nat.le_refl _))
/-- a range object just made, walked -/
theorem range_it {pins : List (Addr × Obj)} {σ : St} {H : Hp} {s : Shared} {R : It → Hp → Prop} {E : Value → Shared → Prop} {lo hi : Int} {t u v : Tok} {tk : Nat} (I : Inv X pins σ H s) (h1 : -(2 ^ 62) ≤ lo) (h2 : lo < 2 ^ 62) (h3 : -(2 ^ 62) ≤ hi) (h4 : hi < 2 ^ 62)
    (q : R (Itr lo (hi - lo).toNat) H) : wpAny (model X.prog X.w) X.A (pyIter (.ref s.heap.objs.size)) (PIE X pins σ tg R) E { s with heap := s.heap.push { cls := .type "range", data := .fields #[.int lo t, .int hi u, .int 1 v] }, toks := tk } := by
  refine wpAny_pyIter_range (IsRange.new ..) (small_one h1 h2 h3 h4) ?_
  have I1 : Inv X pins σ H { s with heap := s.heap.push { cls := .type "range", data := .fields #[.int lo t, .int hi u, .int 1 v] }, toks := tk } := I.kept fun b o e => Heap.get?_push_of_some _ e
  refine ⟨(s.heap.push { cls := .type "range", data := .fields #[.int lo t, .int hi u, .int 1 v] }).objs.size, [(s.heap.push { cls := .type "range", data := .fields #[.int lo t, .int hi u, .int 1 v] }).objs.size], _, _, H, rfl,
    I1.kept (t' := tk) fun b o e => Heap.get?_push_of_some _ e, turn_range _ lo (hi - lo).toNat, ?_, fun b hb => ?_, q⟩
  · have e1 : lo + ((0 : Nat) : Int) * 1 = lo := by simp
    have e2 : (((hi - lo).toNat : Nat) : Int) - ((0 : Nat) : Int) = Builtin.Range.rangeSize lo hi 1 := by rw [rangeSize_one]; split <;> omega
    show IsRangeIter _ _ (lo + ((0 : Nat) : Int) * 1) ((((hi - lo).toNat : Nat) : Int) - ((0 : Nat) : Int)) 1
    rw [e1, e2]
    exact Heap.get?_push_size _ rfl
  · have e : b = (s.heap.push { cls := .type "range", data := .fields #[.int lo t, .int hi u, .int 1 v] }).objs.size := by simpa using hb
    subst e
    exact I1.fpOk (Nat.le_refl _) (I1.hok.fresh (Nat.le_refl _))
def iRng1 (ta : TA) : TI := fun σ H R => ta σ H fun vs H1 => ∃ j : Int, vs = [.int j] ∧ -(2 ^ 62) ≤ j ∧ j < 2 ^ 62 ∧ R (Itr 0 j.toNat) H1
theorem pi_range1 {a : Expr} {ta : TA} {p pos : Pos} (hg : Gl X "range") (hm : X.mg "range" = none) (ha : PA X [a] ta) (hs : starEach [a] X.env = [(false, eval a X.env)] := by rfl) : PI X tg (.Call (.Name "range" p) [a] [] pos) (iRng1 ta) := by
  intro pins s σ H R I h
  refine Call_ (ld_blt I hg hm boot_range (PyProof.Rows.callWith_type1 (thn (ha pos pins s σ H _ I h) fun us s1 ⟨vs, H1, I1, r1, q1⟩ => ?_) hs rfl))
  obtain ⟨j, e, q1, q2, q⟩ := q1
  subst e
  cases r1 with
  | cons r rr =>
    cases rr
    obtain ⟨t, rfl⟩ := r
    exact call_range_1 (range_it I1 (by omega) (by omega) q1 q2 (by simpa using q))

/-! ### for -/
/-- W: the invariant by the turn and a measure; N: what the body is to reach -/
def tFor (wi : TI) (g : TG) (tb : TS) : TS := fun D σ H => wi σ H fun J H1 => ∃ W : Nat → Nat → St → Hp → Prop, (∃ m, W 0 m σ H1) ∧ ∀ i m σ H, W i m σ H →
  (J.stop i H ∧ D.nx σ H) ∨ (J.go i H ∧ ∃ N : St → Hp → Prop, (∀ σ' H', N σ' H' → ∃ m', m' < m ∧ W (i + 1) m' σ' H') ∧ ∀ x H', J.yld i H x H' → g x σ H' fun σ2 H2 => tb { D with nx := N, ct := N, bk := D.nx } σ2 H2)
/-- the records at fp as they stand -/
def pinsAt (fp : List Addr) (h : Heap) : List (Addr × Obj) := fp.filterMap fun b => (h.get? b).map fun o => (b, o)
theorem mem_pinsAt {fp : List Addr} {h : Heap} {b : Addr} {o : Obj} (hb : b ∈ fp) (e : h.get? b = some o) : (b, o) ∈ pinsAt fp h := List.mem_filterMap.mpr ⟨b, hb, by rw [e]; rfl⟩
theorem of_pinsAt {fp : List Addr} {h : Heap} {p : Addr × Obj} (hp : p ∈ pinsAt fp h) : p.1 ∈ fp ∧ h.get? p.1 = some p.2 := by
  obtain ⟨b, hb, e⟩ := List.mem_filterMap.mp hp
  cases q : h.get? b with
  | none => rw [q] at e; cases e
  | some o =>
    rw [q] at e
    have e' : (b, o) = p := Option.some.inj e
    subst e'
    exact ⟨hb, q⟩
theorem Inv.pinned {pins : List (Addr × Obj)} {σ : St} {H : Hp} {s : Shared} {fp : List Addr} (I : Inv X pins σ H s) (hf : ∀ b ∈ fp, FpOk X pins H b) (ho : ∀ b ∈ fp, ∃ o, s.heap.get? b = some o ∧ ∀ v, o.data ≠ .cell v) : Inv X (pins ++ pinsAt fp s.heap) σ H s :=
  I.pins_of fun p hp => (List.mem_append.mp hp).elim (fun z => I.pin p (List.mem_append_right _ z)) fun z => by
    obtain ⟨hb, e⟩ := of_pinsAt z
    obtain ⟨f0, f1, f2, _⟩ := hf p.1 hb
    obtain ⟨o, e', d⟩ := ho p.1 hb
    rw [e] at e'; cases e'
    exact ⟨e, f0, f1, f2, d⟩
theorem Inv.unpinned {pins pl : List (Addr × Obj)} {σ : St} {H : Hp} {s : Shared} (I : Inv X (pins ++ pl) σ H s) : Inv X pins σ H s := I.pins_of fun p hp => I.pin p (List.mem_append_right _ (List.mem_append_left _ hp))
theorem ps_for {iter : Expr} {body : List Stmt} {wi : TI} {g : TG} {tb : TS} {pos : Pos} (hp : PassesOwn (model X.prog X.w) X.A X.env X.xe) (hc : X.calm = true) (hi : PI X tg iter wi) (hg : PG X tg g) (hb : PSs X body tb)
    (hs : ∀ x, foldedSetIterable iter X.env x = pure x := by intro _; rfl) : PS X (.For tg iter body [] pos) (tFor wi g tb) := by
  intro pins s σ H D I h
  refine wpAny_For (thn (hi pins s σ H _ I h) fun v s1 h1 => thn h1 fun itv s2 h2 => ?_) hs
  obtain ⟨it, fp, tn, J, H2, e, I2, T, st2, f2, W, ⟨m0, w0⟩, turn⟩ := h2
  subst e
  -- what stays true of the iterator's objects through the loop
  have stat : ∀ {H' : Hp}, (∀ b ∈ fp, H' b = none) → ∀ b ∈ fp, FpOk X pins H' b := fun hn b hb => ⟨hn b hb, (f2 b hb).2⟩
  refine codeAny_forLoop_any (fun n s' => ∃ i σ' H', Inv X pins σ' H' s' ∧ tn i s'.heap ∧ (∀ b ∈ fp, H' b = none) ∧ W i n σ' H') ?_ m0 ⟨0, σ, H2, I2, st2, fun b hb => (f2 b hb).1, w0⟩
  rintro n s3 ⟨i, σ3, H3, I3, st3, fr3, w3⟩
  rcases turn i n σ3 H3 w3 with ⟨stop, qn⟩ | ⟨go, N, hN, step⟩
  · refine wpAny_passesOwn hp (thn (T.done X rfl rfl rfl hc i pins s3 σ3 H3 X.xe I3 (stat fr3) st3 stop) fun r s4 ⟨hr, I4⟩ => ?_)
    subst hr
    exact wpAny_execs_nil ⟨σ3, H3, I4, qn⟩
  · refine wpAny_passesOwn hp (thn (T.item X rfl rfl rfl hc i pins s3 σ3 H3 X.xe I3 (stat fr3) st3 go) fun r s4 ⟨u, hr, h4⟩ => ?_)
    subst hr
    refine wpAny_passesOwn hp (thn h4 fun _ s5 ⟨x, H5, I5, r5, y5, st5, fr5⟩ => ?_)
    have I5' := I5.pinned (stat fr5) (T.obj _ _ st5)
    refine wpAny_passesOwn hp (thn (hg _ s5 σ3 H5 x u _ I5' r5 (step x H5 y5)) fun _ s6 ⟨σ6, H6, I6, q6⟩ => ?_)
    refine wpAny_passesOwn hp (thn (hb _ s6 σ6 H6 _ I6 q6) fun f s7 q7 => ?_)
    have again : ∀ {σ7 : St} {H7 : Hp}, Inv X (pins ++ pinsAt fp s5.heap) σ7 H7 s7 → N σ7 H7 → ∃ m, m < n ∧ ∃ i σ' H', Inv X pins σ' H' s7 ∧ tn i s7.heap ∧ (∀ b ∈ fp, H' b = none) ∧ W i m σ' H' := fun {σ7 H7} I7 n7 => by
      obtain ⟨m', hm, w7⟩ := hN σ7 H7 n7
      refine ⟨m', hm, i + 1, σ7, H7, I7.unpinned, T.keep _ _ _ st5 fun b hb o e => (I7.pin (b, o) (List.mem_append_right _ (List.mem_append_right _ (mem_pinsAt hb e)))).1, fun b hb => ?_, w7⟩
      obtain ⟨o, e, d⟩ := T.obj _ _ st5 b hb
      exact (I7.pin (b, o) (List.mem_append_right _ (List.mem_append_right _ (mem_pinsAt hb e)))).2.1
    cases f with
    | next => obtain ⟨σ7, H7, I7, n7⟩ := q7; exact again I7 n7
    | cont => obtain ⟨σ7, H7, I7, n7⟩ := q7; exact again I7 n7
    | brk => obtain ⟨σ7, H7, I7, q7⟩ := q7; exact ⟨σ7, H7, I7.unpinned, q7⟩
    | ret v => obtain ⟨x7, σ7, H7, I7, r7, q7⟩ := q7; exact ⟨x7, σ7, H7, I7.unpinned, r7, q7⟩
end

/-! ### the forms one uses -/
end L2

namespace L2
open PySem PySem.Spec PyProof.Rows

abbrev R2 := V → V → Hp → VK → Prop
/-- a two-place operation on values: f is binaryOp op, inplaceOp op or compareOp op -/
def OpR (X : Cx) (f : Value → Value → Sem Value) (r : R2) : Prop :=
  ∀ (pins : List (Addr × Obj)) (s : Shared) (σ : St) (H : Hp) (x y : V) (v u : Value) (Q : VK), Inv X pins σ H s → RelV x v → RelV y u → r x y H Q →
    wpAny (model X.prog X.w) X.A (f v u) (EP X pins σ Q) X.xe s
/-- a one-place operation -/
def UnR (X : Cx) (f : Value → Sem Value) (r : V → Hp → VK → Prop) : Prop :=
  ∀ (pins : List (Addr × Obj)) (s : Shared) (σ : St) (H : Hp) (x : V) (v : Value) (Q : VK), Inv X pins σ H s → RelV x v → r x H Q →
    wpAny (model X.prog X.w) X.A (f v) (EP X pins σ Q) X.xe s
/-- a call of a value that is known (a builtin, a type) with values -/
def CallR (X : Cx) (f : Value) (r : List V → Hp → VK → Prop) : Prop :=
  ∀ (pins : List (Addr × Obj)) (s : Shared) (σ : St) (H : Hp) (xs : List V) (us : List Value) (Q : VK), Inv X pins σ H s → Vals xs us → r xs H Q →
    wpAny (model X.prog X.w) X.A (call f us) (EP X pins σ Q) X.xe s
/-- a value's truth -/
def TruR (X : Cx) (r : V → Hp → (Bool → Hp → Prop) → Prop) : Prop :=
  ∀ (pins : List (Addr × Obj)) (s : Shared) (σ : St) (H : Hp) (x : V) (v : Value) (Q : Bool → Hp → Prop), Inv X pins σ H s → RelV x v → r x H Q →
    wpAny (model X.prog X.w) X.A (truthy v) (TP X pins σ Q) X.xe s

def tOp (r : R2) (ta tb : TE) : TE := fun σ H Q => ta σ H fun x H1 => tb σ H1 fun y H2 => r x y H2 Q
def tUn (r : V → Hp → VK → Prop) (ta : TE) : TE := fun σ H Q => ta σ H fun x H1 => r x H1 Q
/-- ints in, under C, and a value out -/
def rI (C : Int → Int → Prop) (g : Int → Int → V) : R2 := fun x y H Q => ∃ i j, x = .int i ∧ y = .int j ∧ C i j ∧ Q (g i j) H
def rI0 (g : Int → Int → V) : R2 := fun x y H Q => ∃ i j, x = .int i ∧ y = .int j ∧ Q (g i j) H
def rU (g : Int → V) : V → Hp → VK → Prop := fun x H Q => ∃ i, x = .int i ∧ Q (g i) H

section
variable {X : Cx} {a b c : Expr} {ta tb tc : TE} {pos : Pos}

theorem binT (ha : PE X a ta) (hb : PE X b tb) {pins : List (Addr × Obj)} {s : Shared} {σ : St} {H : Hp} {R : V → V → Hp → Prop} (I : Inv X pins σ H s)
    (h : ta σ H fun x H1 => tb σ H1 fun y H2 => R x y H2) {Q : Value → Shared → Prop} {f : Value → Value → Sem Value}
    (hf : ∀ v u s2 x y H2, Inv X pins σ H2 s2 → RelV x v → RelV y u → R x y H2 → wpAny (model X.prog X.w) X.A (f v u) Q X.xe s2) :
    wpAny (model X.prog X.w) X.A (eval a X.env) (fun v s₁ => wpAny (model X.prog X.w) X.A (eval b X.env) (fun u s₂ => wpAny (model X.prog X.w) X.A (f v u) Q X.xe s₂) X.xe s₁) X.xe s := by
  refine thn (ha pins s σ H _ I h) fun v s1 ⟨x, H1, I1, r1, q1⟩ => ?_
  refine thn (hb pins s1 σ H1 _ I1 q1) fun u s2 ⟨y, H2, I2, r2, q2⟩ => ?_
  exact hf v u s2 x y H2 I2 r1 r2 q2

theorem pe_op {op : Operator} {r : R2} (ho : OpR X (binaryOp op) r) (ha : PE X a ta) (hb : PE X b tb) : PE X (.BinOp a op b pos) (tOp r ta tb) := by
  intro pins s σ H Q I h
  exact wpAny_BinOp (binT ha hb I h fun v u s2 x y H2 I2 rx ry q => ho pins s2 σ H2 x y v u Q I2 rx ry q)
theorem pe_un {op : UnaryOp} {r : V → Hp → VK → Prop} (ho : UnR X (unaryOp op) r) (ha : PE X a ta) : PE X (.UnaryOp op a pos) (tUn r ta) := by
  intro pins s σ H Q I h
  exact UnaryOp_ (thn (ha pins s σ H _ I h) fun v s1 ⟨x, H1, I1, r1, q1⟩ => ho pins s1 σ H1 x v Q I1 r1 q1)

/-! ### ints -/
theorem opI {f : Value → Value → Sem Value} {C : Int → Int → Prop} {g : Int → Int → Int}
    (rule : ∀ (i j : Int) (t u : Tok) (s : Shared) (Q : Value → Shared → Prop) (E : Value → Shared → Prop), C i j → Q (.int (g i j) s.toks) { s with toks := s.toks + 1 } → wpAny (model X.prog X.w) X.A (f (.int i t) (.int j u)) Q E s) :
    OpR X f (rI C fun i j => .int (g i j)) := by
  intro pins s σ H x y v u Q I rx ry h
  obtain ⟨i, j, rfl, rfl, hc, q⟩ := h
  obtain ⟨t, rfl⟩ := rx
  obtain ⟨t', rfl⟩ := ry
  exact rule i j t t' s _ _ hc ⟨.int (g i j), H, I.tok _, ⟨_, rfl⟩, q⟩
theorem opI0 {f : Value → Value → Sem Value} {g : Int → Int → Int}
    (rule : ∀ (i j : Int) (t u : Tok) (s : Shared) (Q : Value → Shared → Prop) (E : Value → Shared → Prop), Q (.int (g i j) s.toks) { s with toks := s.toks + 1 } → wpAny (model X.prog X.w) X.A (f (.int i t) (.int j u)) Q E s) :
    OpR X f (rI0 fun i j => .int (g i j)) := by
  intro pins s σ H x y v u Q I rx ry h
  obtain ⟨i, j, rfl, rfl, q⟩ := h
  obtain ⟨t, rfl⟩ := rx
  obtain ⟨t', rfl⟩ := ry
  exact rule i j t t' s _ _ ⟨.int (g i j), H, I.tok _, ⟨_, rfl⟩, q⟩
theorem opB0 {f : Value → Value → Sem Value} {g : Int → Int → Bool}
    (rule : ∀ (i j : Int) (t u : Tok) (s : Shared) (Q : Value → Shared → Prop) (E : Value → Shared → Prop), Q (.bool (g i j)) s → wpAny (model X.prog X.w) X.A (f (.int i t) (.int j u)) Q E s) :
    OpR X f (rI0 fun i j => .bl (g i j)) := by
  intro pins s σ H x y v u Q I rx ry h
  obtain ⟨i, j, rfl, rfl, q⟩ := h
  obtain ⟨t, rfl⟩ := rx
  obtain ⟨t', rfl⟩ := ry
  exact rule i j t t' s _ _ ⟨.bl (g i j), H, I, rfl, q⟩

def CDiv (i j : Int) : Prop := 0 < j ∧ j < 1073741824
def CMul (i j : Int) : Prop := (-(2 ^ 64) < i ∧ i < 2 ^ 64) ∨ (-(2 ^ 64) < j ∧ j < 2 ^ 64)
theorem CMul.ok {i j : Int} (h : CMul i j) : IntMulOk i j := by
  rcases h with ⟨h1, h2⟩ | ⟨h1, h2⟩
  · exact .of_left (intBits_le_64 h1 h2)
  · exact .of_right (intBits_le_64 h1 h2)

theorem op_add : OpR X (binaryOp .Add) (rI0 fun i j => .int (i + j)) := opI0 fun _ _ _ _ _ _ _ q => add_int q
theorem op_sub : OpR X (binaryOp .Sub) (rI0 fun i j => .int (i - j)) := opI0 fun _ _ _ _ _ _ _ q => sub_int q
theorem op_mul : OpR X (binaryOp .Mult) (rI CMul fun i j => .int (i * j)) := opI fun _ _ _ _ _ _ _ hc q => mul_int q hc.ok
/-- // by a positive divisor -/
theorem op_fdiv : OpR X (binaryOp .FloorDiv) (rI CDiv fun i j => .int (i / j)) := opI fun i j _ _ _ _ _ hc q => by
  have h1 : (0 : Int) < j := hc.1
  have h2 : j < 1073741824 := hc.2
  exact floordiv_int (by omega) (by rw [Int.fdiv_eq_ediv_of_nonneg i (by omega)]; exact q) (.inl (PyProof.noPylong_small (by omega)))
/-- % by a positive divisor of any size -/
theorem op_mod : OpR X (binaryOp .Mod) (rI (fun _ j => 0 < j) fun i j => .int (i % j)) := opI fun i j _ _ _ _ _ hc q => by
  have h1 : (0 : Int) < j := hc
  exact mod_int' (by omega) (by rw [Int.fmod_eq_emod_of_nonneg i (by omega)]; exact q)


theorem unI {f : Value → Sem Value} {g : Int → Int}
    (rule : ∀ (i : Int) (t : Tok) (s : Shared) (Q : Value → Shared → Prop) (E : Value → Shared → Prop), Q (.int (g i) s.toks) { s with toks := s.toks + 1 } → wpAny (model X.prog X.w) X.A (f (.int i t)) Q E s) :
    UnR X f (rU fun i => .int (g i)) := by
  intro pins s σ H x v Q I rx h
  obtain ⟨i, rfl, q⟩ := h
  obtain ⟨t, rfl⟩ := rx
  exact rule i t s _ _ ⟨.int (g i), H, I.tok _, ⟨_, rfl⟩, q⟩
theorem un_neg : UnR X (unaryOp .USub) (rU fun i => .int (-i)) := unI fun _ _ _ _ _ q => neg_int q

/-! ### bools among ints: n += (a < b) -/
end

/-! ### comparisons -/


section
variable {X : Cx} {a b c : Expr} {ta tb tc : TE} {pos : Pos}
theorem fin_bl {pins : List (Addr × Obj)} {σ : St} {H : Hp} {s : Shared} {Q : VK} {k k' : Bool} (I : Inv X pins σ H s) (q : Q (.bl k) H) (e : k = k') : EP X pins σ Q (.bool k') s := by
  subst e
  exact ⟨.bl k, H, I, rfl, q⟩

theorem op_lt : OpR X (compareOp .Lt) (rI0 fun i j => .bl (decide (i < j))) := opB0 fun _ _ _ _ _ _ _ q => lt_int q
theorem op_gt : OpR X (compareOp .Gt) (rI0 fun i j => .bl (decide (j < i))) := opB0 fun _ _ _ _ _ _ _ q => gt_int q
theorem op_ge : OpR X (compareOp .GtE) (rI0 fun i j => .bl (decide (j ≤ i))) := opB0 fun _ _ _ _ _ _ _ q => ge_int q

theorem op_notN : OpR X (compareOp .IsNot) (fun x y H Q => y = .non ∧ Q (.bl (!decide (x = .non))) H) := by
  intro pins s σ H x y v u Q I rx ry h
  obtain ⟨rfl, q⟩ := h
  cases ry
  refine isnot_none_gen (fin_bl I q ?_)
  cases x <;> first
    | (cases rx; rfl)
    | (obtain ⟨t, rfl⟩ := rx; rfl)



theorem nomark (b : Expr) {op : CmpOp} (h : op ≠ .In := by decide) (h2 : op ≠ .NotIn := by decide) : behindInMarks op b = false := by
  have e1 : (op == CmpOp.In) = false := by cases op <;> first | rfl | exact absurd rfl h
  have e2 : (op == CmpOp.NotIn) = false := by cases op <;> first | rfl | exact absurd rfl h2
  cases b <;> simp [behindInMarks, e1, e2]
/-- a comparison as a value; hm: nomark b, or (for in, not in) by with_unfolding_all rfl -/
theorem pe_cmpR {op : CmpOp} {r : R2} (ho : OpR X (compareOp op) r) (ha : PE X a ta) (hb : PE X b tb) (hm : behindInMarks op b = false) : PE X (.Compare a [op] [b] pos) (tOp r ta tb) := by
  intro pins s σ H Q I h
  exact wpAny_Compare1 (binT ha hb I h fun v u s2 x y H2 I2 rx ry q => ho pins s2 σ H2 x y v u Q I2 rx ry q) hm
/-- a reading of a value as a test -/
def tTest (t : TE) : TT := fun σ H Q => t σ H fun x H' => ∃ k, x = .bl k ∧ Q k H'
theorem pt_cmpR {op : CmpOp} {r : R2} (ho : OpR X (compareOp op) r) (ha : PE X a ta) (hb : PE X b tb) (hm : behindInMarks op b = false) : PT X (.Compare a [op] [b] pos) (tTest (tOp r ta tb)) := by
  intro pins s σ H Q I h
  refine wpAny_isTrue_Compare1 (thn (ha pins s σ H _ I h) fun v s1 ⟨x, H1, I1, r1, q1⟩ => thn (hb pins s1 σ H1 _ I1 q1) fun u s2 ⟨y, H2, I2, r2, q2⟩ =>
    thn (ho pins s2 σ H2 x y v u _ I2 r1 r2 q2) fun c s3 ⟨z, H3, I3, r3, k, e, q3⟩ => ?_) hm
  subst e
  cases r3
  exact wpAny_truthy_bool ⟨H3, I3, q3⟩

/-! ### truth -/
/-- a value's truth by the abstract heap -/
def TruV (K : PySem.W.Frag) (x : V) (H : Hp) (k : Bool) : Prop :=
  match x with
  | .non => k = false
  | .bl b => k = b
  | .int i => k = (i != 0)
  | .str y => y.length ≤ sizeLine ∧ k = ((y.length : Int) != 0)
  | .byt y => y.size ≤ sizeLine ∧ k = ((y.size : Int) != 0)
  | .ref p => (∃ xs, SqL K H p xs ∧ k = !xs.isEmpty) ∨ (∃ xs, SqT K H p xs ∧ k = !xs.isEmpty) ∨ ∃ kvs, H p = some (.dK kvs) ∧ k = !kvs.isEmpty
  | _ => False
theorem isEmpty_kv {κ : Type} {kvs : List (κ × V)} {vs : List (κ × Value)} (r : KV kvs vs) : (!vs.isEmpty) = !kvs.isEmpty := by
  cases r <;> rfl
theorem isEmpty_of {xs : List V} {its : List Value} (r : Vals xs its) : (!its.toArray.isEmpty) = !xs.isEmpty := by
  cases r <;> simp
theorem line63 : (sizeLine : Nat) < 2 ^ 63 := by rw [sizeLine_eq]; decide
theorem tru_ok : TruR X (fun x H Q => ∃ k, TruV X.K x H k ∧ Q k H) := by
  intro pins s σ H x v Q I rx h
  obtain ⟨k, e, q⟩ := h
  have hl := line63
  have hs : sizeLine = 16777216 := sizeLine_eq
  cases x with
  | non =>
    cases rx
    have e' : k = false := e
    subst e'
    exact truthy_none ⟨H, I, q⟩
  | bl b =>
    cases rx
    have e' : k = b := e
    subst e'
    exact wpAny_truthy_bool ⟨H, I, q⟩
  | int i =>
    obtain ⟨t, rfl⟩ := rx
    have e' : k = (i != 0) := e
    subst e'
    exact PySem.P.truthy_int ⟨H, I, q⟩
  | str y =>
    obtain ⟨t, rfl⟩ := rx
    obtain ⟨hy, e'⟩ : y.length ≤ sizeLine ∧ k = ((y.length : Int) != 0) := e
    subst e'
    exact PySem.P.truthy_str (by omega) ⟨H, I.tok _, q⟩
  | byt y =>
    obtain ⟨t, rfl⟩ := rx
    obtain ⟨hy, e'⟩ : y.size ≤ sizeLine ∧ k = ((y.size : Int) != 0) := e
    subst e'
    exact PySem.W.truthy_bytes (by omega) ⟨H, I.tok _, q⟩
  | ref p =>
    cases rx
    have e' : (∃ xs, SqL X.K H p xs ∧ k = !xs.isEmpty) ∨ (∃ xs, SqT X.K H p xs ∧ k = !xs.isEmpty) ∨ ∃ kvs, H p = some (.dK kvs) ∧ k = !kvs.isEmpty := e
    rcases e' with ⟨xs, hx, e'⟩ | ⟨xs, hx, e'⟩ | ⟨kvs, hx, e'⟩
    · subst e'
      obtain ⟨its, r, pl, hz⟩ := I.list hx
      have hlen := r.length
      exact wpAny_truthy_list pl.isList (by simp only [List.size_toArray]; omega) ⟨H, I.tok _, by rw [isEmpty_of r]; exact q⟩
    · subst e'
      obtain ⟨its, r, pl, hz⟩ := I.tuple hx
      have hlen := r.length
      exact truthy_tuple pl (by simp only [List.size_toArray]; omega) ⟨H, I.tok _, by rw [isEmpty_of r]; exact q⟩
    · subst e'
      obtain ⟨hz, hS, vs, r, m⟩ : kvs.length ≤ sizeLine ∧ (p == sysModules) = false ∧ ∃ vs, KV kvs vs ∧ s.heap.DictOf (mixKind X.prog X.w) p vs := I.hok p _ hx
      have hlen : kvs.length = vs.length := Paired.length r
      exact wpAny_truthy_dict hS m (by omega) ⟨H, I.tok _, by rw [isEmpty_kv r]; exact q⟩
  | _ => exact (show False from e).elim
/-- any expression whose test is its value's truth (a name, a call, a subscript, a field ..: he by fun _ => rfl) -/
theorem pt_truth (ha : PE X a ta) (he : ∀ whole, isTrue a X.env whole = (do let v ← whole; standAt a.pos; holding [v] (truthy v))) :
    PT X a (fun σ H Q => ta σ H fun x H' => ∃ k, TruV X.K x H' k ∧ Q k H') := by
  intro pins s σ H Q I h
  exact isTrue_plain (thn (ha pins s σ H _ I h) fun v s1 ⟨x, H1, I1, r1, q1⟩ => tru_ok pins s1 σ H1 x v Q I1 r1 q1) (he _)

/-! ### strs and bytes -/


/-! ### scalar builtins, by CallR -/
theorem vals1 {x : V} {us : List Value} (r : Vals [x] us) : ∃ u, us = [u] ∧ RelV x u := by
  cases r with
  | cons r1 r2 => cases r2; exact ⟨_, rfl, r1⟩
theorem vals2 {x y : V} {us : List Value} (r : Vals [x, y] us) : ∃ u w', us = [u, w'] ∧ RelV x u ∧ RelV y w' := by
  cases r with
  | cons r1 r2 =>
    cases r2 with
    | cons r3 r4 => cases r4; exact ⟨_, _, rfl, r1, r3⟩
end
end L2

namespace L2
open PySem PySem.Spec PyProof.Rows

/-! ### an instance, its attributes a map -/



section
variable {prog : Program} {w : World} {A : Around} {E : Value → Shared → Prop} {s : Shared} {K : PySem.W.Frag} {x dx C f : Addr} {mA : Str → Option Value} {name : Str} {v : Value}





end

/-! ### the attributes as a list of pairs -/


section
variable {P : Program} {w : World} {H H' : Hp} {h h' : Heap} {a C dx : Addr} {fs fs' : List (Str × V)}
end

/-! ### what of the text a class must have -/
structure Cls (K : PySem.W.Frag) (C : Addr) : Prop where
  pg : PySem.W.plainGet K C Str.empty = true
  hd : PySem.W.hasDictIn K C = true
  po : PySem.W.plainOver K C = true
  sa : PySem.W.findIn K (.ref C) "__setattr__" = some (some (.builtin "object.__setattr__"))

section
variable {X : Cx} {pins : List (Addr × Obj)} {σ : St} {H : Hp} {s : Shared} {a C dx : Addr} {fs : List (Str × V)} {f : Str} {v : V} {A : Around} {E : Value → Shared → Prop}






end

/-! ### readings and rules -/

section
variable {X : Cx} {o e value : Expr} {f : Str} {pos pos' tpos : Pos} {ta tv : TE}

end

/-! ### isinstance -/
section
variable {X : Cx} {pins : List (Addr × Obj)} {σ : St} {H : Hp} {s : Shared} {A : Around} {E : Value → Shared → Prop} {Q : Value → Shared → Prop} {c : Value} {b : Bool}
/-- the type of a value, as the fragment's deciders take it; for an instance its class -/
inductive TyOf (K : PySem.W.Frag) (H : Hp) : V → Value → Prop where
  | non : TyOf K H .non (.type "NoneType")
  | bl (x : Bool) : TyOf K H (.bl x) (.type "bool")
  | int (i : Int) : TyOf K H (.int i) (.type "int")
  | str (x : Str) : TyOf K H (.str x) (.type "str")
  | flt (x : UInt64) : TyOf K H (.flt x) (.type "float")
  | lst {a : Addr} {xs : List V} (e : H a = some (.lst xs)) : TyOf K H (.ref a) (.type "list")
  | frz {a : Addr} {o : Obj} {xs : List V} (e : H a = some (.frz o (.lst xs))) : TyOf K H (.ref a) (.type "list")
  | tup {a : Addr} {xs : List V} (e : H a = some (.tup xs)) : TyOf K H (.ref a) (.type "tuple")
  | dK {a : Addr} {kvs : List (Key × V)} (e : H a = some (.dK kvs)) : TyOf K H (.ref a) (.type "dict")
  | dT {a : Addr} {kvs : List (List Key × V)} (e : H a = some (.dT kvs)) : TyOf K H (.ref a) (.type "dict")
  | ins {a C dx : Addr} {fs : List (Str × V)} (e : H a = some (.ins C dx fs)) (cl : Cls K C) (ha : PySem.W.findIn K (.ref C) "__class__" = some (some (.builtin "object.__class__")))
      (hn : PySem.W.specialIn K (.builtin "object.__class__") "__get__" = some (some (.builtin "getset_descriptor.__get__"))) (htk : PySem.W.takesIn K (.builtin "object.__class__") = some true)
      (hm : PySem.W.mroIn K C (.type "object") = some true) : TyOf K H (.ref a) (.ref C)
end
end L2

namespace L2
open PySem PySem.Spec PyProof.Rows

/-! ### room -/
structure Room (k : Nat) (A : Around) : Prop where
  hd : A.handled = none
  dp : A.depth + 3 * k + 5 < recursionLimit
  un : A.units + 16 * k + 200 < cLine
theorem Room.mono {j k : Nat} {A : Around} (r : Room k A) (h : j ≤ k) : Room j A := ⟨r.hd, by have := r.dp; omega, by have := r.un; omega⟩
theorem Room.deeper {k : Nat} {A : Around} (r : Room (k + 1) A) (env : Env) : Room k (A.deeper env) :=
  ⟨r.hd, by have := r.dp; show A.depth + 1 + 3 * k + 5 < _; omega, by have := r.un; show A.units + 3 + 16 * k + 200 < _; omega⟩
theorem Room.depth {k : Nat} {A : Around} (r : Room k A) : A.depth < recursionLimit := by have := r.dp; omega
theorem Room.units {k : Nat} {A : Around} (r : Room k A) : A.units + 64 < cLine := by have := r.un; omega

/-! ### argument lists and displays -/
def tNil : TA := fun _ H Q => Q [] H
def tCons (ta : TE) (tr : TA) : TA := fun σ H Q => ta σ H fun x H1 => tr σ H1 fun xs H2 => Q (x :: xs) H2
section
variable {X : Cx} {e : Expr} {es : List Expr} {te : TE} {t : TA} {pos : Pos}
theorem pa_nil : PA X [] tNil := fun _ _ _ _ H Q I h => Calls.spliced_nil ⟨[], H, I, .nil, h⟩
theorem pa_cons (ha : PE X e te) (hr : PA X es t) (hs : starEach (e :: es) X.env = (false, eval e X.env) :: starEach es X.env := by rfl) : PA X (e :: es) (tCons te t) := by
  intro pos pins s σ H Q I h
  rw [hs]
  show wpAny _ _ (spliced ((false, eval e X.env) :: backTo pos (starEach es X.env))) _ _ s
  refine Calls.spliced_cons (thn (ha pins s σ H _ I h) fun u s1 ⟨x, H1, I1, r1, q1⟩ => ?_)
  exact thn (hr pos pins s1 σ H1 _ I1 q1) fun us s2 ⟨xs, H2, I2, r2, q2⟩ => ⟨x :: xs, H2, I2, .cons r1 r2, q2⟩

/-- a tuple, a list of written items -/
def tTup (t : TA) : TE := fun σ H Q => t σ H fun xs H1 => xs.length ≤ sizeLine ∧ ∀ p, H1 p = none → Q (.ref p) (upd H1 p (.tup xs))
def tLst (t : TA) : TE := fun σ H Q => t σ H fun xs H1 => xs.length ≤ sizeLine ∧ ∀ p, H1 p = none → Q (.ref p) (upd H1 p (.lst xs))
theorem pe_tup {x1} (h : PA X es t) : PE X (.Tuple es x1 pos) (tTup t) := by
  intro pins s σ H Q I hq
  refine wpAny_Tuple_spliced (thn (h pos pins s σ H _ I hq) fun us s1 ⟨xs, H1, I1, r, z, q⟩ => ⟨by rw [← r.length]; exact z, ?_⟩)
  have hf : H1 s1.heap.objs.size = none := I1.hok.fresh (Nat.le_refl _)
  refine ⟨.ref s1.heap.objs.size, upd H1 s1.heap.objs.size (.tup xs), I1.laid (t' := s1.toks) (fun b u e => Heap.get?_push_of_some _ e) (Nat.le_refl _) ?_, rfl, q _ hf⟩
  exact ⟨z, us, r, ⟨_, Heap.get?_push_size _ rfl, rfl, _, rfl⟩⟩
theorem pe_lst (h : PA X es t) : PE X (.List es pos) (tLst t) := by
  intro pins s σ H Q I hq
  refine wpAny_List_spliced (thn (h pos pins s σ H _ I hq) fun us s1 ⟨xs, H1, I1, r, z, q⟩ => ⟨by rw [← r.length]; exact z, ?_⟩)
  have hf : H1 s1.heap.objs.size = none := I1.hok.fresh (Nat.le_refl _)
  refine ⟨.ref s1.heap.objs.size, upd H1 s1.heap.objs.size (.lst xs), I1.laid (t' := s1.toks) (fun b u e => Heap.get?_push_of_some _ e) (Nat.le_refl _) ?_, rfl, q _ hf⟩
  exact ⟨z, us, 0, r, Heap.get?_push_size _ rfl⟩
end

/-! ### what a def promises -/
/-- a def's promise: the bound arguments in the parameters' order, the heap, the wanted end, the wanted exception -/
abbrev Sp := List V → Hp → VK → XK → Prop
/-- how an exception lies behind a call (file 08 gives it): the callers' frames, abstract heap and state ahead of the call, the wish, the exception, the state -/
abbrev CXT := List Env → Hp → Shared → XK → Value → Shared → Prop

/-- the state at a call -/
structure Env0 (P : Program) (w : World) (K : PySem.W.Frag) (mg : Str → Option Value) (base : Heap) (A : Around) (outer : List Env) (s : Shared) (H : Hp) : Prop where
  frames : A.frames = some outer
  mod : Mod K mg base
  bs : ∀ b o, base.get? b = some o → s.heap.get? b = some o ∧ H b = none
  bsz : base.objs.size ≤ s.heap.objs.size
  funs : s.heap.FunFrames base outer
  frf : ∀ b ∈ frs outer, H b = none
  hok : HOk P w H s.heap
  bare : AllBare s.gens
/-- a call's end -/
def CE (outer : List Env) (P : Program) (w : World) (H : Hp) (s : Shared) (Q : VK) (u : Value) (s' : Shared) : Prop :=
  ∃ v H', s'.os = s.os ∧ AllBare s'.gens ∧ Un (frs outer) [] H H' s.heap s'.heap ∧ HOk P w H' s'.heap ∧ RelV v u ∧ Q v H'
def CR (CX : CXT) (outer : List Env) (P : Program) (w : World) (H : Hp) (s : Shared) (Q : VK) (E : XK) (r : Result) (s' : Shared) : Prop :=
  match r with
  | .ok (.ret u) => CE outer P w H s Q u s'
  | .ok _ => False
  | .error e => CX outer H s E e s'
structure FnOk (P : Program) (w : World) (K : PySem.W.Frag) (mg : Str → Option Value) (base : Heap) (CX : CXT) (k : Nat) (f : Addr) (fd : FuncData) (ps : List Str) (sp : Sp) : Prop where
  len : ∀ vs H Q E, sp vs H Q E → vs.length = ps.length
  run : ∀ (A : Around) (outer : List Env) (s : Shared) (H : Hp) (args : Args) (us : List Value) (vs : List V) (Q : VK) (E : XK), Room k A → Env0 P w K mg base A outer s H → BindsTo s fd args (ps.zip us) → Vals vs us → sp vs H Q E →
    codeAny (model P w) A (.call (.ref f) args) (CR CX outer P w H s Q E) s
/-- a weaker promise -/
theorem FnOk.imp {P : Program} {w : World} {K : PySem.W.Frag} {mg : Str → Option Value} {base : Heap} {CX : CXT} {k : Nat} {f : Addr} {fd : FuncData} {ps : List Str} {sp sp' : Sp} (F : FnOk P w K mg base CX k f fd ps sp)
    (h : ∀ vs H Q E, sp' vs H Q E → sp vs H Q E) : FnOk P w K mg base CX k f fd ps sp' :=
  ⟨fun vs H Q E q => F.len vs H Q E (h _ _ _ _ q), fun A outer s H args us vs Q E hr he hb hv hs => F.run A outer s H args us vs Q E hr he hb hv (h _ _ _ _ hs)⟩


section
variable {X : Cx} {pins : List (Addr × Obj)} {σ : St} {H : Hp} {s s' : Shared}
/-- from a body: what a callee wants -/
theorem Inv.env0 (I : Inv X pins σ H s) : Env0 X.prog X.w X.K X.mg X.base X.A X.stack s H :=
  ⟨I.ok.frames, I.ok.mod, I.bs, Nat.le_trans I.ok.bsz I.sz, I.stack, I.stkFree, I.hok, I.bare⟩
/-- behind a call -/
theorem Inv.after {Q : VK} {u : Value} (I : Inv X pins σ H s) (h : CE X.stack X.prog X.w H s Q u s') : EP X pins σ Q u s' := by
  obtain ⟨v, H', os, bare, un, hok, r, q⟩ := h
  obtain ⟨hh, g, d, t, os'⟩ := s'
  obtain rfl : os' = s.os := os
  exact ⟨v, H', I.call (h' := hh) (g' := g) (d' := d) (t' := t) (ch := []) un hok bare (fun b z => absurd z (by simp)), r, q⟩
end

/-! ### calls -/
/-- f(..): the written arguments, then the defaults dvs; E: what is wanted of an exception -/
def tCall (sp : Sp) (dvs : List V) (E : XK) (t : TA) : TE := fun σ H Q => t σ H fun vs H1 => sp (vs ++ dvs) H1 Q E

/-- how the parameters are bound: us the positional arguments, kw the keywords' values by name, ds the defaults that fill up -/
def Binds (K : PySem.W.Frag) (fd : FuncData) (ps : List Str) (ds : List Value) : Prop :=
  ∀ (s : Shared) (us : List Value), K.In s.heap → (us ++ ds).length = ps.length → BindsTo s fd ⟨us, []⟩ (ps.zip (us ++ ds))
/-- every parameter is given -/
theorem Binds.all {K : PySem.W.Frag} {fd : FuncData} {ps : List Str} (h : ∀ us : List Value, us.length = ps.length → bindArgs fd ⟨us, []⟩ = pure (ps.zip us)) : Binds K fd ps [] := fun s us _ hl => by
  rw [List.append_nil] at hl ⊢
  exact .of_eq (h us hl)

/-- an exception of a callee reaches what this body wants of exceptions -/
def Passes (CX : CXT) (X : Cx) (E : XK) : Prop := ∀ (pins : List (Addr × Obj)) (σ : St) (H : Hp) (s : Shared) (e : Value) (s' : Shared), Inv X pins σ H s → CX X.stack H s E e s' → X.xe e s'

section
variable {X : Cx} {CX : CXT} {k : Nat} {f C : Addr} {fd : FuncData} {ps : List Str} {sp : Sp} {dvs : List V} {ds : List Value} {E : XK} {x m : Str} {p pos apos : Pos} {e o : Expr} {es : List Expr} {ta : TE} {t : TA}

/-- the callee runs -/
theorem run_fn {pins : List (Addr × Obj)} {σ : St} {H : Hp} {s : Shared} {Q : VK} {us : List Value} {vs : List V} (F : FnOk X.prog X.w X.K X.mg X.base CX k f fd ps sp) (hr : Room k X.A) (hb : Binds X.K fd ps ds) (hd : Vals dvs ds) (hx : Passes CX X E)
    (I : Inv X pins σ H s) (r : Vals vs us) (h : sp (vs ++ dvs) H Q E) : wpAny (model X.prog X.w) X.A (call (.ref f) us) (EP X pins σ Q) X.xe s := by
  have r2 : Vals (vs ++ dvs) (us ++ ds) := r.append hd
  have hl : (us ++ ds).length = ps.length := by rw [← r2.length]; exact F.len _ _ _ _ h
  refine wpAny_call (codeAny_mono (F.run X.A X.stack s H ⟨us, []⟩ (us ++ ds) (vs ++ dvs) Q E hr I.env0 (hb s us I.kIn hl) r2 h) fun r s' hq => ?_)
  cases r with
  | error e => exact hx pins σ H s e s' I hq
  | ok fl =>
    cases fl with
    | ret u => exact I.after hq
    | next => exact False.elim hq
    | brk => exact False.elim hq
    | cont => exact False.elim hq

theorem pe_call (F : FnOk X.prog X.w X.K X.mg X.base CX k f fd ps sp) (hr : Room k X.A) (hg : Gl X x) (hm : X.mg x = some (.ref f)) (hk : PySem.W.keepIn X.K (.ref f) = true) (hb : Binds X.K fd ps ds) (hd : Vals dvs ds) (hx : Passes CX X E)
    (ha : PA X (e :: es) t) (hdb : (x == ("__debug__" : Str)) = false := by decide) (he : starEach (e :: es) X.env = (false, eval e X.env) :: starEach es X.env := by rfl) (hpl : (backTo pos (starEach es X.env)).any (·.1) = false := by rfl) :
    PE X (.Call (.Name x p) (e :: es) [] pos) (tCall sp dvs E t) := by
  intro pins s σ H Q I h
  refine wpAny_Call_Name_kw (ld_glob I hg hm ?_ hdb)
  refine PySem.W.callWith_K (h₀ := X.base) I.ok.mod.kin hk (thn (ha pos pins s σ H _ I h) fun us s1 ⟨vs, H1, I1, r, q⟩ => ⟨I1.kIn, ?_⟩) he hpl
  exact run_fn F hr hb hd hx I1 r q



end

/-! ### keywords -/
section
variable {X : Cx} {CX : CXT} {k : Nat} {f C : Addr} {fd : FuncData} {ps ks : List Str} {sp : Sp} {E : XK} {x m : Str} {p pos apos kpos : Pos} {e o : Expr} {es : List Expr} {kws : List Keyword} {te ta : TE} {t tk : TA} {nm : Option Str}

variable {g : List Value → List Value → List Value} {gV : List V → List V → List V}
end

/-! ### a def's body keeps its promise -/
/-- names: the parameters first -/
structure FnScope (N P : List Str) (sc : Scope) : Prop where
  kind : sc.kind = .function
  co : sc.isCoroutine = false
  gen : sc.isGenerator = false
  nd : N.Nodup
  pre : N.take P.length = P
  par : ∀ x ∈ P, sc.names.lookup x = some .local ∨ sc.names.lookup x = some .cell
  nofree : ∀ y ∈ sc.names, y.2 ≠ .free

theorem bindL_out {kindOf : Str → Option NameKind} {x : Str} : ∀ {binds : List (Str × Value)} {m : Str → Option Value}, (∀ v, (x, v) ∉ binds) → bindL kindOf binds m x = m x
  | [], _, _ => rfl
  | (n, v) :: r, m, h => by
    unfold bindL
    rw [bindL_out fun w hw => h w (List.mem_cons_of_mem _ hw)]
    split
    · have : x ≠ n := by rintro rfl; exact h v List.mem_cons_self
      simp [this]
    · rfl
theorem bindC_out {kindOf : Str → Option NameKind} {x : Str} : ∀ {binds : List (Str × Value)} {m : Str → Option Value}, (∀ v, (x, v) ∉ binds) → bindC kindOf binds m x = m x
  | [], _, _ => rfl
  | (n, v) :: r, m, h => by
    unfold bindC
    rw [bindC_out fun w hw => h w (List.mem_cons_of_mem _ hw)]
    split
    · rfl
    · have : x ≠ n := by rintro rfl; exact h v List.mem_cons_self
      simp [this]
theorem bindL_get {kindOf : Str → Option NameKind} {x : Str} {v : Value} : ∀ {P : List Str} {vs : List Value} {i : Nat} {m : Str → Option Value}, P.Nodup → P[i]? = some x → vs[i]? = some v → kindOf x = some .local →
    bindL kindOf (P.zip vs) m x = some v
  | [], _, _, _, _, h, _, _ => by simp at h
  | _ :: _, [], _, _, _, _, h, _ => by simp at h
  | p :: P, w :: vs, 0, m, nd, h1, h2, hk => by
    simp at h1 h2; subst h1; subst h2
    show bindL kindOf ((p, w) :: P.zip vs) m p = _
    unfold bindL
    rw [bindL_out fun v hv => (List.nodup_cons.mp nd).1 (List.of_mem_zip hv).1, if_pos hk]
    simp
  | p :: P, w :: vs, i + 1, m, nd, h1, h2, hk => by
    show bindL kindOf ((p, w) :: P.zip vs) m x = _
    unfold bindL
    exact bindL_get (i := i) (List.nodup_cons.mp nd).2 (by simpa using h1) (by simpa using h2) hk
theorem bindC_get {kindOf : Str → Option NameKind} {x : Str} {v : Value} : ∀ {P : List Str} {vs : List Value} {i : Nat} {m : Str → Option Value}, P.Nodup → P[i]? = some x → vs[i]? = some v → kindOf x ≠ some .local →
    bindC kindOf (P.zip vs) m x = some v
  | [], _, _, _, _, h, _, _ => by simp at h
  | _ :: _, [], _, _, _, _, h, _ => by simp at h
  | p :: P, w :: vs, 0, m, nd, h1, h2, hk => by
    simp at h1 h2; subst h1; subst h2
    show bindC kindOf ((p, w) :: P.zip vs) m p = _
    unfold bindC
    rw [bindC_out fun v hv => (List.nodup_cons.mp nd).1 (List.of_mem_zip hv).1, if_neg hk]
    simp
  | p :: P, w :: vs, i + 1, m, nd, h1, h2, hk => by
    show bindC kindOf ((p, w) :: P.zip vs) m x = _
    unfold bindC
    exact bindC_get (i := i) (List.nodup_cons.mp nd).2 (by simpa using h1) (by simpa using h2) hk

/-- the names' values at the entry -/
def start (N : List Str) (vs : List V) : St := vs.map some ++ List.replicate (N.length - vs.length) none

/-- the context of a def's body, at its entry; an exception leaves the frame, then lies as CX says -/
def cxOf (CX : CXT) (P : Program) (w : World) (K : PySem.W.Frag) (mg : Str → Option Value) (base : Heap) (N : List Str) (qual : Str) (scope : Scope) (f : Addr) (cd : Value) (A : Around) (outer : List Env) (s : Shared) (H : Hp) (E : XK) : Cx where
  prog := P
  w := w
  K := K
  mg := mg
  base := base
  A := A.deeper (envOfC qual scope s.heap.objs.size f cd)
  N := N
  s₀ := s
  H₀ := H
  env := envOfC qual scope s.heap.objs.size f cd
  outer := outer
  stack := envOfC qual scope s.heap.objs.size f cd :: outer
  ex := []
  calm := true
  fn := fun _ => true
  pn := []
  xe := fun e s' => wpAny (model P w) (A.deeper (envOfC qual scope s.heap.objs.size f cd)) (leaving (envOfC qual scope s.heap.objs.size f cd) e) (fun _ s'' => CX outer H s E e s'') (fun e' s'' => CX outer H s E e' s'') s'

theorem cell_has {sc : Scope} {n : Nat} {x : Str} (h : sc.names.lookup x = some .cell) : ∃ c, (cellsFrom n sc.names []).lookup x = some c := by
  have q := PySem.W.cellsFrom_some sc.names n [] (.inl h)
  exact Option.isSome_iff_exists.mp q

theorem inv_start {CX : CXT} {P : Program} {w : World} {K : PySem.W.Frag} {mg : Str → Option Value} {base : Heap} {N ps : List Str} {qual : Str} {scope : Scope} {f : Addr} {cd : Value} {A : Around} {outer : List Env} {s s1 : Shared} {H : Hp} {E : XK} {us : List Value} {vs : List V}
    (S : FnScope N ps scope) (hd : A.handled = none) (e0 : Env0 P w K mg base A outer s H) (hl : vs.length = ps.length) (r : Vals vs us)
    (x : InCallC s s.heap.objs.size (bindL (envOfC qual scope s.heap.objs.size f cd).kindOf (ps.zip us) fun _ => none) (cellsFrom (s.heap.objs.size + 1) scope.names []) (bindC (envOfC qual scope s.heap.objs.size f cd).kindOf (ps.zip us) fun _ => none) s1) :
    Inv (cxOf CX P w K mg base N qual scope f cd A outer s H E) [] (start N vs) H s1 := by
  have hpl : ps.length ≤ N.length := by have := congrArg List.length S.pre; rw [List.length_take] at this; omega
  obtain ⟨h1, tk, rfl, hk⟩ := x.done
  have noA : ∀ b : Addr, b ∉ (cxOf CX P w K mg base N qual scope f cd A outer s H E).ex := fun b z => absurd (show b ∈ ([] : List Addr) from z) (by simp)
  refine ⟨⟨e0.mod, S.kind, rfl, rfl, Nat.le_refl _, fun y z c h1 h2 => ?_, fun y hy => ?_, fun y c _ h => ?_, fun _ => hd, Around.frames_deeper e0.frames, .inr ⟨rfl, rfl⟩, fun b z => absurd z (noA b), e0.bs, e0.bsz, fun b _ _ => noA b, fun b z => absurd z (noA b), e0.funs, e0.frf⟩,
    rfl, e0.bare, Un.kept hk, ⟨_, x.toInCall.ns, fun i y v h1 h2 h3 => ?_⟩, fun y c h => ⟨_, x.cell y c h⟩, e0.hok.fresh (Nat.le_refl _), fun y c h => ?_, fun p hp => absurd (show p ∈ ([] : List (Addr × Obj)) from hp) (by simp), e0.hok.kept hk, ?_⟩
  · exact name_of_addr x.apart (PySem.mem_of_lookup h1) (PySem.mem_of_lookup h2)
  · have hy : scope.names.lookup y = some .cell ∨ scope.names.lookup y = some .free := hy
    rcases hy with hy | hy
    · exact cell_has hy
    · exact absurd rfl (S.nofree _ (PySem.mem_of_lookup hy))
  · exact Nat.le_of_lt (x.above y c (PySem.mem_of_lookup h))
  · have hi : i < vs.length := by
      unfold start at h2
      by_cases hi : i < vs.length
      · exact hi
      · rw [List.getElem?_append_right (by simpa using hi)] at h2
        rw [List.getElem?_replicate] at h2
        split at h2 <;> cases h2
    have ha : vs[i]? = some v := by
      unfold start at h2
      rw [List.getElem?_append_left (by simpa using hi), List.getElem?_map] at h2
      cases e : vs[i]? with
      | none => rw [e] at h2; cases h2
      | some a => rw [e] at h2; cases h2; rfl
    obtain ⟨u, hu, rv⟩ := r.get ha
    have hp : ps[i]? = some y := by
      rw [← S.pre, List.getElem?_take_of_lt (by omega)]; exact h1
    have ndP : ps.Nodup := by rw [← S.pre]; exact S.nd.sublist (List.take_sublist _ _)
    refine ⟨u, rv, ?_⟩
    rcases S.par y (List.mem_of_getElem? hp) with k | k
    · exact .inl ⟨k, bindL_get ndP hp hu k⟩
    · obtain ⟨c, e⟩ := cell_has (n := s.heap.objs.size + 1) k
      refine .inr ⟨.inl k, c, e, ?_⟩
      have q := x.cell y c e
      rw [bindC_get ndP hp hu (by show scope.names.lookup y ≠ _; rw [k]; decide)] at q
      exact q
  · exact e0.hok.fresh (Nat.le_of_lt (x.above y c (PySem.mem_of_lookup h)))
  · unfold start
    show _ = N.length
    rw [List.length_append, List.length_map, List.length_replicate]
    omega

/-- THE RULE: a def (or a method) of the text, by its body. The body's reading t is chosen for each entry; it is run at the parameters' values -/
theorem fn_of {CX : CXT} {P : Program} {w : World} {K : PySem.W.Frag} {mg : Str → Option Value} {base : Heap} {k : Nat} {f : Addr} {name qual : Str} {params : Arguments} {body : List Stmt} {scope : Scope} {dV kV doc pm cdv ct oc : Value} {an od : Option Addr}
    {osl : Array (Option Value)} {N ps : List Str} {sp : Sp} (lk : K.lookup f = some ⟨oc, od, .func (PySem.W.fnOf name qual params body scope dV kV doc pm an cdv ct), osl⟩) (hcd : PySem.W.codeIn K cdv qual = true) (S : FnScope N ps scope)
    (len : ∀ vs H Q E, sp vs H Q E → vs.length = ps.length)
    (hbody : ∀ (A : Around) (outer : List Env) (s : Shared) (H : Hp) (vs : List V) (Q : VK) (E : XK), Room k (A.deeper (envOfC qual scope s.heap.objs.size f cdv)) → sp vs H Q E →
      ∃ t, PSs (cxOf CX P w K mg base N qual scope f cdv A outer s H E) body t ∧ t { nx := fun _ H' => Q .non H', rt := Q } (start N vs) H) :
    FnOk P w K mg base CX (k + 1) f (PySem.W.fnOf name qual params body scope dV kV doc pm an cdv ct) ps sp := by
  refine ⟨len, fun A outer s H args us vs Q E hr e0 hb r hsp => ?_⟩
  have hl := len _ _ _ _ hsp
  have KX : K.In s.heap := e0.mod.kin.keeps fun b o e => (e0.bs b o e).1
  have lim : s.heap.NoLimit := e0.mod.nolimit.keeps fun b o e => (e0.bs b o e).1
  have hkind : ∀ y ∈ ps.zip us, scope.names.lookup y.1 = some .local ∨ (scope.names.lookup y.1 = some .cell ∧ ((cellsFrom (s.heap.objs.size + 1) scope.names []).lookup y.1).isSome = true) := fun ⟨n, v⟩ hy => by
    rcases S.par n (List.of_mem_zip hy).1 with q | q
    · exact .inl q
    · exact .inr ⟨q, PySem.W.cellsFrom_some _ _ _ (.inl q)⟩
  refine codeAny_call_function hr.depth (KX _ _ lk) rfl S.co S.gen rfl (PySem.W.codeRec_of KX hcd) (hb _ _ _ _ ?_)
  refine wpAny_newFunctionEnv_cells S.kind hkind fun env he s1 x => ?_
  subst he
  refine ⟨lim.keeps x.toInCall.keep, codeAny_func ?_⟩
  obtain ⟨t, ht, hq⟩ := hbody A outer s H vs Q E (hr.deeper _) hsp
  have I : Inv (cxOf CX P w K mg base N qual scope f cdv A outer s H E) [] (start N vs) H s1 := inv_start S hr.hd e0 hl r x
  refine wpAny_mono (ht [] s1 (start N vs) H _ I hq) (fun fl s' hs => ?_) fun e s' hs => hs
  have fin : ∀ {σ' : St} {H' : Hp} {v : V} {u : Value}, Inv (cxOf CX P w K mg base N qual scope f cdv A outer s H E) [] σ' H' s' → RelV v u → Q v H' → CE outer P w H s Q u s' :=
    fun {σ' H' v u} J rv q => ⟨v, H', J.os, J.bare, J.base, J.hok, rv, q⟩
  cases fl with
  | ret u =>
    obtain ⟨v, σ', H', J, rv, q⟩ := hs
    exact fin J rv q
  | next =>
    obtain ⟨σ', H', J, q⟩ := hs
    exact fin (v := V.non) (u := Value.none) J rfl q
  | brk =>
    obtain ⟨_, _, _, q⟩ := hs
    exact False.elim q
  | cont =>
    obtain ⟨_, _, _, q⟩ := hs
    exact False.elim q
end L2

namespace L2
open PySem PySem.Spec PyProof.Rows
section
variable {X : Cx} {x : Str} {p pos : Pos} {e : Expr} {es : List Expr} {t : TA} {id T : String} {r : List V → Hp → VK → Prop}

def tCB (r : List V → Hp → VK → Prop) (t : TA) : TE := fun σ H Q => t σ H fun vs H1 => r vs H1 Q
/-- f(e, ..), f a built-in function -/
theorem pe_callB (hc : CallR X (.builtin id) r) (hg : Gl X x) (hm : X.mg x = none) (hv : bootBuiltins x = some (.builtin id)) (ha : PA X (e :: es) t) (hn : x ≠ "__name__" := by decide) (hdb : (x == ("__debug__" : Str)) = false := by decide)
    (he : starEach (e :: es) X.env = (false, eval e X.env) :: starEach es X.env := by rfl) (hpl : (backTo pos (starEach es X.env)).any (·.1) = false := by rfl) : PE X (.Call (.Name x p) (e :: es) [] pos) (tCB r t) := by
  intro pins s σ H Q I h
  refine wpAny_Call_Name_kw (ld_blt I hg hm hv ?_ hn hdb)
  exact PyProof.Rows.callWith_builtin1 (thn (ha pos pins s σ H _ I h) fun us s1 ⟨vs, H1, I1, r1, q1⟩ => hc pins s1 σ H1 vs us Q I1 r1 q1) he hpl
/-- T(e, ..), T a built-in type -/
theorem pe_callTy (hc : CallR X (.type T) r) (hg : Gl X x) (hm : X.mg x = none) (hv : bootBuiltins x = some (.type T)) (ha : PA X (e :: es) t) (hn : x ≠ "__name__" := by decide) (hdb : (x == ("__debug__" : Str)) = false := by decide)
    (he : starEach (e :: es) X.env = (false, eval e X.env) :: starEach es X.env := by rfl) (hpl : (backTo pos (starEach es X.env)).any (·.1) = false := by rfl) : PE X (.Call (.Name x p) (e :: es) [] pos) (tCB r t) := by
  intro pins s σ H Q I h
  refine wpAny_Call_Name_kw (ld_blt I hg hm hv ?_ hn hdb)
  exact PyProof.Rows.callWith_type1 (thn (ha pos pins s σ H _ I h) fun us s1 ⟨vs, H1, I1, r1, q1⟩ => hc pins s1 σ H1 vs us Q I1 r1 q1) he hpl
end
end L2

namespace HT
open PySem PyProof.Rows

/-- t < u of tuples of ints -/
def lexLt : List Int → List Int → Bool
  | [], [] => false
  | [], _ :: _ => true
  | _ :: _, [] => false
  | x :: xs, y :: ys => if x = y then lexLt xs ys else decide (x < y)
theorem lexLt_cons (x y : Int) (xs ys : List Int) : lexLt (x :: xs) (y :: ys) = if x = y then lexLt xs ys else decide (x < y) := rfl
theorem lexLt_nil_nil : lexLt [] [] = false := rfl
theorem lexLt_nil_cons (y : Int) (ys : List Int) : lexLt [] (y :: ys) = true := rfl
theorem lexLt_cons_nil (x : Int) (xs : List Int) : lexLt (x :: xs) [] = false := rfl

theorem eqAt_int (A : Around) (s : Shared) (a : Int) (t : Tok) (c : Int) (u : Tok) : ∃ e, SeqAt.EqAt A s (.int a t) (.int c u) e ∧ (e = true ↔ a = c) :=
  ⟨(a == c), SeqAt.EqAt.int_int a t c u, by simp⟩
theorem rcLt_int (A : Around) (s : Shared) (a : Int) (t : Tok) (c : Int) (u : Tok) (prog : Program) (w : World) (E : Value → Shared → Prop) (Q : Value → Shared → Prop) (h : Q (.bool (decide (a < c))) s) :
    wpAny (model prog w) A (richCompare .Lt (.int a t) (.int c u)) Q E s :=
  (PyProof.Rows.lt_int h : wpAny (model prog w) A (compareOp .Lt (.int a t) (.int c u)) Q E s)

section
open PySem.SeqAt
open PySem.AutoSeq1 (wpAny_loadPart')
open PySem.MeetsSeq PySem.MeetsSeq2 PySem.MeetsSeq3

theorem tuple_lt_ints (l b : Addr) (items items2 : Array Value) (n n2 : Nat) (dd dd2 : Option Addr) (sl sl2 : Array (Option Value)) (ns ms : List Int) (hi : IntsAre items.toList ns) (hj : IntsAre items2.toList ms) :
    Meets (Builtin.«tuple.__lt__» ⟨[.ref l, .ref b], []⟩)
      (fun _ R s => s.heap.get? l = some { cls := .type "tuple", dict := dd, data := .seq items n, slots := sl } ∧ s.heap.get? b = some { cls := .type "tuple", dict := dd2, data := .seq items2 n2, slots := sl2 } ∧
        R (.ok (.ret (.bool (lexLt ns ms)))) s) :=
  .of_wp fun prog w A R s h => by
    obtain ⟨hp, g, d, tk, os⟩ := s; obtain ⟨hl, hb, h⟩ := h
    have f2 := AutoSeq1.sub_tuple_tuple
    have z1 : items.size = ns.length := by rw [← hi.length]; simp
    have z2 : items2.size = ms.length := by rw [← hj.length]; simp
    wp_walk using wpAny_loadPart' hl, wpAny_loadPart' hb, wpAny_forIn_list _ (fun rest b s' => b.1 = none ∧ s' = ⟨hp, g, d, tk, os⟩ ∧ ∃ (vs ws : List Value) (ns' ms' : List Int), rest = vs.zip ws ∧
      IntsAre vs ns' ∧ IntsAre ws ms' ∧ ns'.length + items2.size = ms'.length + items.size ∧ R (.ok (.ret (.bool (lexLt ns' ms')))) ⟨hp, g, d, tk, os⟩) _
    case turn =>
      rintro ⟨y, x⟩ rest b s' ⟨hb', rfl, vs, ws, ns', ms', hz, hvi, hwi, hlen, hR⟩
      cases hvi with
      | nil => rw [List.zip_nil_left] at hz; cases hz
      | cons a t hvi' =>
        cases hwi with
        | nil => rw [List.zip_nil_right] at hz; cases hz
        | cons c u hwi' =>
          rw [List.zip_cons_cons] at hz
          injection hz with hyx hrest
          injection hyx with hy hx
          subst hy hx
          rw [lexLt_cons] at hR
          simp only [List.length_cons] at hlen
          obtain ⟨e, he, hiff⟩ := eqAt_int A.in1 ⟨hp, g, d, tk, os⟩ a t c u
          refine wpAny_bind (he prog w _ _ ?_)
          cases e with
          | true =>
            rw [if_pos (hiff.mp rfl)] at hR
            wp_walk
            exact ⟨rfl, rfl, _, _, _, _, hrest, hvi', hwi', by omega, hR⟩
          | false =>
            rw [if_neg (fun q => absurd (hiff.mpr q) Bool.false_ne_true)] at hR
            have hri := rcLt_int A.in1 ⟨hp, g, d, tk, os⟩ a t c u prog w
            wp_walk using hri
            exact ⟨_, rfl, by simpa using hR⟩
    case fin =>
      rintro ⟨b1, b2⟩ s' ⟨hb', rfl, vs, ws, ns', ms', hz, hvi, hwi, hlen, hR⟩
      simp only at hb'
      subst hb'
      have hv : lexLt ns' ms' = decide (items.size < items2.size) := by
        cases hvi with
        | nil =>
          cases hwi with
          | nil =>
            simp only [List.length_nil] at hlen
            rw [lexLt_nil_nil]
            exact (decide_eq_false (by omega)).symm
          | cons c u hw =>
            simp only [List.length_nil, List.length_cons] at hlen
            rw [lexLt_nil_cons]
            exact (decide_eq_true (by omega)).symm
        | cons a t hv =>
          cases hwi with
          | nil =>
            simp only [List.length_nil, List.length_cons] at hlen
            rw [lexLt_cons_nil]
            exact (decide_eq_false (by omega)).symm
          | cons c u hw =>
            rw [List.zip_cons_cons] at hz
            cases hz
      rw [hv] at hR
      wp_walk
      exact ⟨_, rfl, by simpa [Builtin.Tuple.tupleCompareSizes] using hR⟩
    case h =>
      exact ⟨rfl, rfl, items.toList, items2.toList, ns, ms, rfl, hi, hj, by omega, h⟩
end

section
variable {prog : Program} {w : World} {A : Around} {E : Value → Shared → Prop} {s : Shared}

theorem lt_tupInts {l b : Addr} {items items2 : Array Value} {ns ms : List Int} {Q : Value → Shared → Prop} (hl : IsTup s.heap l items) (hb : IsTup s.heap b items2) (hi : IntsAre items.toList ns) (hj : IntsAre items2.toList ms)
    (hu : A.units < cLine) (h : Q (.bool (lexLt ns ms)) s) : wpAny (model prog w) A (compareOp .Lt (.ref l) (.ref b)) Q E s := by
  obtain ⟨⟨cls, dd, data, sl⟩, ho, hc, n, hd⟩ := id hl
  obtain ⟨⟨cls2, dd2, data2, sl2⟩, ho2, hc2, n2, hd2⟩ := id hb
  simp only at hc hd hc2 hd2
  subst hc hd hc2 hd2
  exact richCompare_meets_room (op := .Lt) ⟨_, ho, rfl⟩ ⟨_, ho2, rfl⟩ PySem.F.slot_tuple_lt PySem.F.entry_tuple_lt (PySem.F.args_tuple_lt_2 _ _) (tuple_lt_ints l b items items2 n n2 dd dd2 sl sl2 ns ms hi hj)
    ⟨ho, ho2, show Value.bool (lexLt ns ms) ≠ Value.notImplemented ∧ Q (.bool (lexLt ns ms)) s from ⟨(fun x => nomatch x), h⟩⟩ hu


/-! ### t[a:b], not the whole -/
/-- a slice's bound as a place among n (d where it is left out) -/
def sIx (n d : Nat) : Option Int → Nat
  | none => d
  | some v => if v < 0 then (v + (n : Int)).toNat else min v.toNat n
theorem sIx_none (n d : Nat) : sIx n d none = d := rfl
theorem sIx_nat (n d k : Nat) : sIx n d (some (k : Int)) = min k n := by
  show (if (k : Int) < 0 then ((k : Int) + (n : Int)).toNat else min (k : Int).toNat n) = min k n
  rw [if_neg (by omega), Int.toNat_natCast]
theorem sIx_le (n d : Nat) (hd : d ≤ n) (o : Option Int) : sIx n d o ≤ n := by
  cases o with
  | none => exact hd
  | some v =>
    show (if v < 0 then (v + (n : Int)).toNat else min v.toNat n) ≤ n
    by_cases hv : v < 0
    · rw [if_pos hv]; omega
    · rw [if_neg hv]; exact Nat.min_le_right _ _
theorem clip_eq (v : Int) (n d : Nat) : (if v < 0 then max (v + (n : Int)) 0 else min v (n : Int)) = ((sIx n d (some v) : Nat) : Int) := by
  show (if v < 0 then max (v + (n : Int)) 0 else min v (n : Int)) = (((if v < 0 then (v + (n : Int)).toNat else min v.toNat n) : Nat) : Int)
  by_cases hv : v < 0
  · simp only [if_pos hv]; omega
  · simp only [if_neg hv]; omega
theorem adjust_gen (lo hi : Option Int) (n : Nat) : Builtin.Slice.sliceAdjust lo hi 1 (n : Int) = (((sIx n 0 lo : Nat) : Int), ((sIx n n hi : Nat) : Int)) := by
  have h1 : ¬ ((1 : Int) < 0) := by omega
  unfold Builtin.Slice.sliceAdjust
  simp only [h1, if_false]
  refine Prod.ext ?_ ?_
  · cases lo with
    | none => rfl
    | some v => exact clip_eq v n 0
  · cases hi with
    | none => rfl
    | some v => exact clip_eq v n n
theorem places_gen (i j : Nat) : Builtin.Slice.slicePlaces (i : Int) (j : Int) 1 = j - i := by
  unfold Builtin.Slice.slicePlaces
  have h1 : (1 : Int) > 0 := by omega
  simp only [h1, if_true, Int.ediv_one]
  split <;> omega
theorem slicePart_ {v : Value} {o : Option Int} {Q : Option Int → Shared → Prop} (p : IsPart v o) (h : Q o s) : wpAny (model prog w) A (Builtin.Slice.slicePartIndex v) Q E s := by
  cases p with
  | none => exact slicePart_none h
  | int i t => exact slicePart_int h
theorem sliceApplied_gen {sl : Addr} {vl vu : Value} {lo hi : Option Int} {n : Nat} {Q : Int × Int × Nat → Shared → Prop} (hs : s.heap.IsSliceOf sl vl vu .none) (pl : IsPart vl lo) (pu : IsPart vu hi)
    (h : Q (((sIx n 0 lo : Nat) : Int), 1, sIx n n hi - sIx n 0 lo) s) : wpAny (model prog w) A (Builtin.Slice.sliceApplied (.ref sl) (pure (n : Int))) Q E s := by
  obtain ⟨os, hos, hcs, hds⟩ := id hs
  unfold Builtin.Slice.sliceApplied Builtin.Slice.sliceFields
  refine wpAny_bind (wpAny_bind (wpAny_field hos hds (x := vl) rfl (wpAny_bind (wpAny_field hos hds (x := vu) rfl (wpAny_bind (wpAny_field hos hds (x := .none) rfl (wpAny_pure ?_)))))))
  refine wpAny_bind (slicePart_none ?_)
  show wpAny _ _ (if ((1 : Int) == 0) = true then _ else _) _ _ s
  rw [if_neg (by decide)]
  refine wpAny_bind (slicePart_ pl (wpAny_bind (slicePart_ pu (wpAny_bind (wpAny_pure ?_)))))
  show wpAny _ _ (match Builtin.Slice.sliceAdjust lo hi 1 (n : Int) with | (lo, hi) => pure (lo, (1 : Int), Builtin.Slice.slicePlaces lo hi 1)) _ _ s
  rw [adjust_gen lo hi n]
  show wpAny _ _ (pure (((sIx n 0 lo : Nat) : Int), (1 : Int), Builtin.Slice.slicePlaces ((sIx n 0 lo : Nat) : Int) ((sIx n n hi : Nat) : Int) 1)) _ _ s
  rw [places_gen]
  exact wpAny_pure h
theorem pick_gen (xs : Array Value) (i k : Nat) : ((List.range k).filterMap fun (m : Nat) => xs[((i : Int) + (m : Int) * 1).toNat]?).toArray = ((xs.toList.drop i).take k).toArray := by
  have e : (fun (m : Nat) => xs[((i : Int) + (m : Int) * 1).toNat]?) = fun m => xs[i + m]? := by
    funext m
    have : ((i : Int) + (m : Int) * 1).toNat = i + m := by omega
    rw [this]
  rw [e]
  have := pick_run xs i k
  rw [List.filterMap_map] at this
  have e2 : ((fun x => xs[x]?) ∘ fun x => i + x) = fun m => xs[i + m]? := rfl
  rw [e2] at this
  rw [this]

theorem getItem_tuple_cut {t sl : Addr} {items : Array Value} {vl vu : Value} {lo hi : Option Int} {Q : Value → Shared → Prop} (ht : IsTup s.heap t items) (hs : s.heap.IsSliceOf sl vl vu .none) (pl : IsPart vl lo) (pu : IsPart vu hi)
    (hw : ¬ (sIx items.size 0 lo = 0 ∧ sIx items.size items.size hi = items.size))
    (h : Q (.ref s.heap.objs.size) { s with heap := s.heap.push { cls := .type "tuple", data := .seq ((items.toList.drop (sIx items.size 0 lo)).take (sIx items.size items.size hi - sIx items.size 0 lo)).toArray } })
    (hsz : items.size ≤ sizeLine) : wpAny (model prog w) A (getItem (.ref t) (.ref sl)) Q E s := by
  have htake : sizeOk (.seq ((items.toList.drop (sIx items.size 0 lo)).take (sIx items.size items.size hi - sIx items.size 0 lo)).toArray) := by
    show ((items.toList.drop (sIx items.size 0 lo)).take (sIx items.size items.size hi - sIx items.size 0 lo)).toArray.size ≤ sizeLine
    rw [List.size_toArray, List.length_take, List.length_drop, Array.length_toList]
    omega
  have hj : sIx items.size items.size hi ≤ items.size := sIx_le _ _ (Nat.le_refl _) hi
  obtain ⟨os, hos, hcs, hds⟩ := id hs
  have hTs : s.TypeIs (.ref sl) "slice" := ⟨os, hos, hcs⟩
  unfold getItem
  try with_reducible refine wpAny_holding ?_
  first | refine wpAny_bind (wpAny_pure ?_) | skip
  refine wpAny_bind (wpAny_sequenceKey ht.typeIs (by decide) ?_)
  refine wpAny_bind (wpAny_callSpecial?_slot (name := Str.ofString "__getitem__") ht.typeIs PyProof.Rows.slot_tuple_getitem
    (wpAny_call_entry PyProof.Rows.slot_tuple_getitem ht.typeIs entry_tuple_getitem ?_ (args_tuple_getitem _ _)))
  show wpAny _ _ (Builtin.Tuple.tupleItemsOf (.ref t) >>= _) _ _ s
  refine wpAny_bind (tupleItemsOf_ ht ?_)
  refine wpAny_bind (wpAny_typeOf hTs ?_)
  rw [if_pos (by decide)]
  refine wpAny_bind (sliceApplied_gen hs pl pu ?_)
  have hno : ¬ ((((sIx items.size 0 lo : Nat) : Int) == 0 && (1 : Int) == 1 && (sIx items.size items.size hi - sIx items.size 0 lo) == items.size) = true) := by
    intro q
    rw [Bool.and_eq_true, Bool.and_eq_true] at q
    have q1 : ((sIx items.size 0 lo : Nat) : Int) = 0 := eq_of_beq q.1.1
    have q2 : sIx items.size items.size hi - sIx items.size 0 lo = items.size := eq_of_beq q.2
    exact hw ⟨by omega, by omega⟩
  show wpAny _ _ (if (((sIx items.size 0 lo : Nat) : Int) == 0 && (1 : Int) == 1 && (sIx items.size items.size hi - sIx items.size 0 lo) == items.size) = true then _ else _) _ _ s
  rw [if_neg hno, pick_gen]
  first
    | exact wpAny_bind (m := Builtin.Tuple.tupleExact _) (wpAny_newObj_type (wpAny_pure ⟨_, rfl, wpAny_pure h⟩) htake)
    | exact wpAny_bind (m := Builtin.Tuple.tupleExact _) (wpAny_newObj_type (wpAny_bind (wpAny_pure (wpAny_pure ⟨_, rfl, wpAny_pure h⟩))) htake)
    | exact wpAny_bind (wpAny_bind (m := Builtin.Tuple.tupleExact _) (wpAny_newObj_type (wpAny_pure (wpAny_pure ⟨_, rfl, wpAny_pure h⟩)) htake))
    | exact wpAny_bind (wpAny_bind (m := Builtin.Tuple.tupleExact _) (wpAny_newObj_type (wpAny_pure ⟨_, rfl, wpAny_pure h⟩) htake))
end
end HT

namespace L2
open PySem PySem.Spec PyProof.Rows

/-! ### the parts of a slice -/
abbrev TO := St → Hp → (Option Int → Hp → Prop) → Prop
/-- a slice's part (left out, or an int) -/
def PO (X : Cx) (e : Option Expr) (t : TO) : Prop :=
  ∀ (pins : List (Addr × Obj)) (s : Shared) (σ : St) (H : Hp) (Q : Option Int → Hp → Prop), Inv X pins σ H s → t σ H Q →
    wpAny (model X.prog X.w) X.A (evalPart e X.env) (fun u s' => ∃ o H', Inv X pins σ H' s' ∧ IsPart u o ∧ Q o H') X.xe s
def tNoPart : TO := fun _ H Q => Q none H
def tPart (t : TE) : TO := fun σ H Q => t σ H fun x H1 => ∃ i, x = .int i ∧ Q (some i) H1

theorem intsAre_of {ns : List Int} : ∀ {us : List Value}, Vals (ns.map V.int) us → IntsAre us ns := by
  induction ns with
  | nil => intro us r; rw [List.map_nil] at r; cases r; exact .nil
  | cons n ns ih =>
    intro us r
    rw [List.map_cons] at r
    cases r with
    | cons r1 r2 =>
      obtain ⟨t, e⟩ := r1
      subst e
      exact .cons n t (ih r2)

section
variable {X : Cx} {e : Expr} {te : TE} {lo hi : Option Expr} {tl th : TO} {pos p2 : Pos}

theorem po_none : PO X none tNoPart := by
  intro pins s σ H Q I h
  rw [evalPart_none]
  exact wpAny_pure ⟨none, H, I, .none, h⟩
theorem po_some (h : PE X e te) : PO X (some e) (tPart te) := by
  intro pins s σ H Q I hw
  rw [evalPart_some]
  refine thn (h pins s σ H _ I hw) fun u s1 ⟨x, H1, I1, r1, q1⟩ => ?_
  obtain ⟨i, rfl, q⟩ := q1
  obtain ⟨t, rfl⟩ := r1
  exact ⟨some i, H1, I1, .int i t, q⟩

/-- what a slice of a value is, by values: the slice object stands at sl -/
def SlR (X : Cx) (r : V → Option Int → Option Int → Hp → VK → Prop) : Prop :=
  ∀ (pins : List (Addr × Obj)) (s : Shared) (σ : St) (H : Hp) (x : V) (v vl vu : Value) (lo hi : Option Int) (sl : Addr) (Q : VK), Inv X pins σ H s → RelV x v → s.heap.IsSliceOf sl vl vu .none → IsPart vl lo → IsPart vu hi → r x lo hi H Q →
    ∃ T id, typeLookup (.type T) "__getitem__" = pure (some (.builtin id)) ∧ s.TypeIs v T ∧ wpAny (model X.prog X.w) X.A (getItem v (.ref sl)) (EP X pins σ Q) X.xe s
def tSl (r : V → Option Int → Option Int → Hp → VK → Prop) (te : TE) (tl th : TO) : TE := fun σ H Q => te σ H fun x H1 => tl σ H1 fun l H2 => th σ H2 fun u H3 => r x l u H3 Q
/-- a[lo:hi], any a -/
theorem pe_slice {r : V → Option Int → Option Int → Hp → VK → Prop} (hr : SlR X r) (he : PE X e te) (hl : PO X lo tl) (hu : PO X hi th) : PE X (.Subscript e (.Slice lo hi none p2) pos) (tSl r te tl th) := by
  intro pins s σ H Q I h
  refine Subscript_ (thn (he pins s σ H _ I h) fun v s1 ⟨x, H1, I1, r1, q1⟩ => ?_)
  refine wpAny_Slice (thn (hl pins s1 σ H1 _ I1 q1) fun vl s2 ⟨l, H2, I2, pl, q2⟩ => thn (hu pins s2 σ H2 _ I2 q2) fun vu s3 ⟨u, H3, I3, pu, q3⟩ => ?_)
  rw [evalPart_none]
  refine wpAny_pure ?_
  have I4 : Inv X pins σ H3 { s3 with heap := s3.heap.push { cls := .type "slice", data := .fields #[vl, vu, .none] } } := I3.kept (t' := s3.toks) fun b ob q => Heap.get?_push_of_some _ q
  obtain ⟨T, id, hT, ht, hg⟩ := hr pins { s3 with heap := s3.heap.push { cls := .type "slice", data := .fields #[vl, vu, .none] } } σ H3 x v vl vu l u s3.heap.objs.size Q I4 r1 (Heap.IsSliceOf.new ..) pl pu q3
  show wpAny (model X.prog X.w) X.A (subscriptTail e (.Slice lo hi none p2) v (.ref s3.heap.objs.size)) (EP X pins σ Q) X.xe { s3 with heap := s3.heap.push { cls := .type "slice", data := .fields #[vl, vu, .none] } }
  exact tail_any (ops := [.ref s3.heap.objs.size, v]) ht hT hg (by with_unfolding_all rfl)

/-- the items of xs[lo:hi] -/
def cutV (xs : List V) (lo hi : Option Int) : List V := (xs.drop (HT.sIx xs.length 0 lo)).take (HT.sIx xs.length xs.length hi - HT.sIx xs.length 0 lo)
theorem cutV_length (xs : List V) (lo hi : Option Int) : (cutV xs lo hi).length ≤ xs.length := by
  unfold cutV
  rw [List.length_take, List.length_drop]
  omega
/-- t[lo:hi], not the whole of it (the whole would be t itself) -/
def rSlT (K : PySem.W.Frag) : V → Option Int → Option Int → Hp → VK → Prop := fun x lo hi H Q => ∃ a xs, x = .ref a ∧ SqT K H a xs ∧
  ¬ (HT.sIx xs.length 0 lo = 0 ∧ HT.sIx xs.length xs.length hi = xs.length) ∧ ∀ p, H p = none → Q (.ref p) (upd H p (.tup (cutV xs lo hi)))
theorem sl_tup : SlR X (rSlT X.K) := by
  intro pins s σ H x v vl vu lo hi sl Q I rx hs pl pu h
  obtain ⟨a, xs, rfl, hx, hw, q⟩ := h
  cases rx
  obtain ⟨its, r, ht, hz⟩ := I.tuple hx
  have hlen : its.toArray.size = xs.length := by rw [List.size_toArray]; exact r.length.symm
  refine ⟨"tuple", _, PyProof.Rows.slot_tuple_getitem.lookup, ht.typeIs, ?_⟩
  refine HT.getItem_tuple_cut ht hs pl pu (by rw [hlen]; exact hw) ?_ (by rw [hlen]; exact hz)
  rw [hlen]
  refine ⟨.ref s.heap.objs.size, _, I.laid (t' := s.toks) (o := .tup (cutV xs lo hi)) (fun b ob q => Heap.get?_push_of_some _ q) (Nat.le_refl _) ?_, rfl, q _ (I.hok.fresh (Nat.le_refl _))⟩
  exact ⟨Nat.le_trans (cutV_length xs lo hi) hz, _, (r.drop (HT.sIx xs.length 0 lo)).take (HT.sIx xs.length xs.length hi - HT.sIx xs.length 0 lo), IsTup.new _ _⟩

/-! ### t < u, t + u -/
end
end L2

namespace L2
open PySem PySem.Spec PyProof.Rows

/-! ### places -/
/-- the place that an index of any sign means -/
def ixN (n : Nat) (i : Int) : Option Nat := if 0 ≤ i then (if i < n then some i.toNat else none) else if -(n : Int) ≤ i then some (i + n).toNat else none
def atI {α : Type} (xs : List α) (i : Int) : Option α := (ixN xs.length i).bind fun j => xs[j]?
theorem ixN_seq {n : Nat} {i : Int} {j : Nat} (h : ixN n i = some j) : seqIndex? i n = some j ∧ j < n ∧ -(n : Int) ≤ i ∧ i < n := by
  unfold ixN at h
  by_cases h0 : 0 ≤ i
  · rw [if_pos h0] at h
    by_cases h1 : i < n
    · rw [if_pos h1] at h
      have e : i.toNat = j := Option.some.inj h
      exact ⟨by rw [seqIndex_of h0 h1, e], by omega, by omega, h1⟩
    · rw [if_neg h1] at h; cases h
  · rw [if_neg h0] at h
    by_cases h1 : -(n : Int) ≤ i
    · rw [if_pos h1] at h
      have e : (i + n).toNat = j := Option.some.inj h
      exact ⟨by rw [seqIndex_neg (by omega) h1, e], by omega, h1, by omega⟩
    · rw [if_neg h1] at h; cases h
theorem atI_get {α : Type} {xs : List α} {i : Int} {v : α} (h : atI xs i = some v) : ∃ j, seqIndex? i xs.length = some j ∧ xs[j]? = some v ∧ j < xs.length ∧ -(xs.length : Int) ≤ i ∧ i < xs.length := by
  unfold atI at h
  cases e : ixN xs.length i with
  | none => rw [e] at h; cases h
  | some j =>
    rw [e] at h
    obtain ⟨h1, h2, h3, h4⟩ := ixN_seq e
    exact ⟨j, h1, h, h2, h3, h4⟩
theorem atI_nat {α : Type} {xs : List α} {j : Nat} {v : α} (h : xs[j]? = some v) : atI xs (j : Int) = some v := by
  have hj : j < xs.length := (List.getElem?_eq_some_iff.mp h).1
  have e : ixN xs.length (j : Int) = some j := by
    unfold ixN
    rw [if_pos (by omega), if_pos (by omega)]; simp
  unfold atI; rw [e]; exact h
theorem atI_last {α : Type} (xs : List α) (v : α) : atI (xs ++ [v]) (-1) = some v := by
  have hl : (xs ++ [v]).length = xs.length + 1 := by simp
  have e : ixN (xs ++ [v]).length (-1) = some xs.length := by
    unfold ixN
    rw [hl, if_neg (by decide), if_pos (by omega)]
    congr 1
    omega
  unfold atI
  rw [e]
  show (xs ++ [v])[xs.length]? = some v
  simp

/-! ### what may be subscripted -/
/-- what stands as an index of a plain subscript -/
def PlainIx (b : Expr) : Prop := ∀ o i, subscripted b false o i = operate [o, i] (getItem o i)
/-- a subscript by values -/
def IxR (X : Cx) (r : R2) : Prop :=
  ∀ (value slice : Expr) (pins : List (Addr × Obj)) (s : Shared) (σ : St) (H : Hp) (x y : V) (v u : Value) (Q : VK), Inv X pins σ H s → RelV x v → RelV y u → r x y H Q →
    subscripted slice false v u = operate [v, u] (getItem v u) → wpAny (model X.prog X.w) X.A (subscriptTail value slice v u) (EP X pins σ Q) X.xe s
/-- a call of a builtin's method by values: the receiver, the arguments -/
def MtR (X : Cx) (id : String) (r : V → List V → Hp → VK → Prop) : Prop :=
  ∀ (pins : List (Addr × Obj)) (s : Shared) (σ : St) (H : Hp) (x : V) (xs : List V) (v : Value) (us : List Value) (Q : VK), Inv X pins σ H s → RelV x v → Vals xs us → r x xs H Q →
    wpAny (model X.prog X.w) X.A (call (.builtin id) (v :: us)) (EP X pins σ Q) X.xe s
section
variable {X : Cx} {a b : Expr} {ta tb : TE} {pos : Pos}
theorem IxR.or {r r' : R2} (h : IxR X r) (h' : IxR X r') : IxR X (fun x y H Q => r x y H Q ∨ r' x y H Q) := by
  intro value slice pins s σ H x y v u Q I rx ry q hs
  rcases q with q | q
  · exact h value slice pins s σ H x y v u Q I rx ry q hs
  · exact h' value slice pins s σ H x y v u Q I rx ry q hs
/-- a[b] -/
theorem pe_ix {r : R2} (hr : IxR X r) (ha : PE X a ta) (hb : PE X b tb) (hs : PlainIx b) : PE X (.Subscript a b pos) (tOp r ta tb) := by
  intro pins s σ H Q I h
  exact Subscript_ (binT ha hb I h fun v u s2 x y H2 I2 rx ry q => hr a b pins s2 σ H2 x y v u Q I2 rx ry q (hs _ _))

def rIxL (K : PySem.W.Frag) : R2 := fun x y H Q => ∃ p xs i v, x = .ref p ∧ y = .int i ∧ SqL K H p xs ∧ atI xs i = some v ∧ Q v H
def rIxT (K : PySem.W.Frag) : R2 := fun x y H Q => ∃ p xs i v, x = .ref p ∧ y = .int i ∧ SqT K H p xs ∧ atI xs i = some v ∧ Q v H
def rIxS : R2 := fun x y H Q => ∃ z i c, x = .str z ∧ y = .int i ∧ z.length ≤ sizeLine ∧ atI z.cps.toList i = some c ∧ Q (.str ⟨#[c]⟩) H
theorem ix_list : IxR X (rIxL X.K) := by
  intro value slice pins s σ H x y v u Q I rx ry h hs
  obtain ⟨p, xs, i, z, rfl, rfl, hq, he, q⟩ := h
  cases rx
  obtain ⟨t, rfl⟩ := ry
  obtain ⟨its, r, pl, hz⟩ := I.list hq
  obtain ⟨j, h1, h2, h3, h4, h5⟩ := atI_get he
  obtain ⟨w, ew, rw'⟩ := r.get h2
  have hl := r.length
  have hn := line63
  have fin : EP X pins σ Q w s := ⟨z, H, I, rw', q⟩
  by_cases h0 : 0 ≤ i
  · have hj : i.toNat = j := by
      rw [seqIndex_of h0 h5] at h1
      exact Option.some.inj h1
    exact item_listR pl.isList h0 (by omega) (by rw [hj]; simpa using ew) fin hs
  · have hj : (i + (its.toArray.size : Int)).toNat = j := by
      rw [seqIndex_neg (by omega) h4] at h1
      rw [List.size_toArray, ← hl]
      exact Option.some.inj h1
    exact subscriptTail_builtinR (x := w) pl.isList.typeIs slot_list_getitem.lookup
      (wpAny_getItem_list_neg (Q := fun r s' => r = w ∧ EP X pins σ Q r s') pl.isList (by omega) (by rw [List.size_toArray] <;> omega) (by omega) (by rw [hj]; simpa using ew) ⟨rfl, fin⟩) hs
theorem ix_tup : IxR X (rIxT X.K) := by
  intro value slice pins s σ H x y v u Q I rx ry h hs
  obtain ⟨p, xs, i, z, rfl, rfl, hq, he, q⟩ := h
  cases rx
  obtain ⟨t, rfl⟩ := ry
  obtain ⟨its, r, pl, hz⟩ := I.tuple hq
  obtain ⟨j, h1, h2, h3, h4, h5⟩ := atI_get he
  obtain ⟨w, ew, rw'⟩ := r.get h2
  have hl := r.length
  have hn := line63
  have fin : EP X pins σ Q w s := ⟨z, H, I, rw', q⟩
  exact subscriptTail_builtinR (x := w) pl.typeIs slot_tuple_getitem.lookup
    (getItem_tuple (j := j) (Q := fun r s' => r = w ∧ EP X pins σ Q r s') pl (by omega) (by omega) (by rw [List.size_toArray, ← hl]; exact h1) (by simpa using ew) ⟨rfl, fin⟩) hs
theorem ix_str : IxR X rIxS := by
  intro value slice pins s σ H x y v u Q I rx ry h hs
  obtain ⟨z, i, c, rfl, rfl, hz, he, q⟩ := h
  obtain ⟨t, rfl⟩ := rx
  obtain ⟨t', rfl⟩ := ry
  obtain ⟨j, h1, h2, h3, h4, h5⟩ := atI_get he
  have hl : z.cps.toList.length = z.length := by simp [Str.length]
  rw [hl] at h1 h4 h5
  have hn := line63
  exact tail_any (typeIs_str s z t) slot_str_getitem.lookup (getItem_str (c := c) (by
    have e1 : decide (i < -(2 ^ 63 : Int)) = false := decide_eq_false (by omega)
    have e2 : decide (i ≥ 2 ^ 63) = false := decide_eq_false (by omega)
    rw [e1, e2, Bool.or_false]) (by rw [h1]; simpa using h2) ⟨.str ⟨#[c]⟩, H, I.tok _, ⟨_, rfl⟩, q⟩) hs
/-- list, tuple or str -/
def rIx (K : PySem.W.Frag) : R2 := fun x y H Q => rIxL K x y H Q ∨ rIxT K x y H Q ∨ rIxS x y H Q
theorem ix_seq : IxR X (rIx X.K) := ix_list.or (ix_tup.or ix_str)

/-! ### xs[i] = v, any sign -/

/-! ### slices -/
theorem slice_bounds (lo hi : Option Int) (n : Nat) : (sliceBounds lo hi none n).1 = ((HT.sIx n 0 lo : Nat) : Int) ∧ (sliceBounds lo hi none n).2.1 = ((HT.sIx n n hi : Nat) : Int) ∧ (sliceBounds lo hi none n).2.2 = 1 := by
  refine ⟨?_, ?_, rfl⟩
  · cases lo with
    | none => simp [sliceBounds, HT.sIx]
    | some i =>
      simp only [sliceBounds, HT.sIx, Option.getD_none, show (1 : Int) > 0 by decide, if_true]
      by_cases h : i < 0
      · simp only [h, if_true] <;> omega
      · simp only [h, if_false] <;> omega
  · cases hi with
    | none => simp [sliceBounds, HT.sIx]
    | some i =>
      simp only [sliceBounds, HT.sIx, Option.getD_none, show (1 : Int) > 0 by decide, if_true]
      by_cases h : i < 0
      · simp only [h, if_true] <;> omega
      · simp only [h, if_false] <;> omega
theorem slicePick_cut (its : List Value) (lo hi : Option Int) : slicePick its.toArray lo hi none = ((its.drop (HT.sIx its.length 0 lo)).take (HT.sIx its.length its.length hi - HT.sIx its.length 0 lo)).toArray := by
  obtain ⟨h1, h2, h3⟩ := slice_bounds lo hi its.toArray.size
  unfold slicePick
  rw [h1, h2, h3]
  simp only [sliceRange_one, pick_run, List.size_toArray] <;> rfl
/-- xs[lo:hi] of a list: a new list -/
def rSlL (K : PySem.W.Frag) : V → Option Int → Option Int → Hp → VK → Prop := fun x lo hi H Q => ∃ a xs, x = .ref a ∧ SqL K H a xs ∧ ∀ p, H p = none → Q (.ref p) (upd H p (.lst (cutV xs lo hi)))
theorem sl_list : SlR X (rSlL X.K) := by
  intro pins s σ H x v vl vu lo hi sl Q I rx hs pl pu h
  obtain ⟨a, xs, rfl, hx, q⟩ := h
  cases rx
  obtain ⟨its, r, ht, hz⟩ := I.list hx
  have hlen := r.length
  refine ⟨"list", _, slot_list_getitem.lookup, ht.isList.typeIs, ?_⟩
  refine wpAny_getItem_list_slice ht.isList hs pl pu .none (by simp) ?_ (by rw [List.size_toArray] <;> omega)
  rw [slicePick_cut, ← hlen]
  refine ⟨.ref s.heap.objs.size, _, I.laid (t' := s.toks) (o := .lst (cutV xs lo hi)) (fun b ob q => Heap.get?_push_of_some _ q) (Nat.le_refl _) ?_, rfl, q _ (I.hok.fresh (Nat.le_refl _))⟩
  exact ⟨Nat.le_trans (cutV_length xs lo hi) hz, _, 0, (r.drop (HT.sIx xs.length 0 lo)).take (HT.sIx xs.length xs.length hi - HT.sIx xs.length 0 lo), Heap.get?_push_size _ rfl⟩

/-! ### in, not in: flat items -/

/-! ### len, list(x), tuple(x) of any list or tuple that is read -/
theorem call_len_seq : CallR X (.builtin "len") (fun xs H Q => ∃ p ys, xs = [.ref p] ∧ (SqL X.K H p ys ∨ SqT X.K H p ys) ∧ Q (.int ys.length) H) := by
  intro pins s σ H xs us Q I r h
  obtain ⟨p, ys, rfl, hq, q⟩ := h
  obtain ⟨u, rfl, rx⟩ := vals1 r
  cases rx
  have hn := line63
  rcases hq with hq | hq
  · obtain ⟨its, r', pl, hz⟩ := I.list hq
    have hlen := r'.length
    exact Calls.call_len_list pl.isList (by simp only [List.size_toArray] <;> omega) ⟨.int ys.length, H, I.tok _, ⟨s.toks + 1, by rw [List.size_toArray, hlen]⟩, q⟩
  · obtain ⟨its, r', pl, hz⟩ := I.tuple hq
    have hlen := r'.length
    exact len_tuple pl (by simp only [List.size_toArray] <;> omega) ⟨.int ys.length, H, I.tok _, ⟨s.toks + 1, by rw [List.size_toArray, hlen]⟩, q⟩
theorem call_list_of : CallR X (.type "list") (fun xs H Q => ∃ p ys, xs = [.ref p] ∧ (SqL X.K H p ys ∨ SqT X.K H p ys) ∧ ∀ l, H l = none → Q (.ref l) (upd H l (.lst ys))) := by
  intro pins s σ H xs us Q I r h
  obtain ⟨p, ys, rfl, hq, q⟩ := h
  obtain ⟨u, rfl, rx⟩ := vals1 r
  cases rx
  have fin : ∀ (its : List Value), Vals ys its → ys.length ≤ sizeLine → ∀ (h' : Heap) (c' : Nat), (∀ b o', s.heap.get? b = some o' → h'.get? b = some o') →
      h'.get? s.heap.objs.size = some { cls := .type "list", dict := none, data := .seq its.toArray c', slots := #[] } → EP X pins σ Q (.ref s.heap.objs.size) { s with heap := h' } := fun its r' hz h' c' kp e =>
    ⟨.ref s.heap.objs.size, _, I.laid (t' := s.toks) kp (Nat.le_refl _) (show ObjOk X.prog X.w _ h' _ (.lst ys) from ⟨hz, its, c', r', e⟩), rfl, q _ (I.hok.fresh (Nat.le_refl _))⟩
  rcases hq with hq | hq
  · obtain ⟨its, r', pl, hz⟩ := I.list hq
    have hlen := r'.length
    obtain ⟨o, ho, hc, n, hd⟩ := pl.isList
    exact call_list_seq p (.inl rfl) ho hc hd (fun h' c' kp e => fin its r' hz h' c' kp e) (by simp only [List.size_toArray] <;> omega)
  · obtain ⟨its, r', pl, hz⟩ := I.tuple hq
    have hlen := r'.length
    obtain ⟨o, ho, hc, n, hd⟩ := pl
    exact call_list_seq p (.inr rfl) ho hc hd (fun h' c' kp e => fin its r' hz h' c' kp e) (by simp only [List.size_toArray] <;> omega)
theorem call_tuple_of : CallR X (.type "tuple") (fun xs H Q => ∃ p ys, xs = [.ref p] ∧ ((SqL X.K H p ys ∧ ∀ l, H l = none → Q (.ref l) (upd H l (.tup ys))) ∨ (SqT X.K H p ys ∧ Q (.ref p) H))) := by
  intro pins s σ H xs us Q I r h
  obtain ⟨p, ys, rfl, h⟩ := h
  obtain ⟨u, rfl, rx⟩ := vals1 r
  cases rx
  rcases h with ⟨hq, q⟩ | ⟨hq, q⟩
  · obtain ⟨its, r', pl, hz⟩ := I.list hq
    have hlen := r'.length
    refine call_tuple_list pl.isList (fun h' kp => ?_) (by simp only [List.size_toArray] <;> omega)
    have I1 : Inv X pins σ H { s with heap := h' } := I.kept (t' := s.toks) kp
    have I2 : Inv X pins σ (upd H h'.objs.size (.tup ys)) { s with heap := h'.push { cls := .type "tuple", data := .seq its.toArray } } :=
      I1.laid (t' := s.toks) (fun b o e => Heap.get?_push_of_some _ e) (Nat.le_refl _) (show ObjOk X.prog X.w _ _ _ (.tup ys) from ⟨hz, its, r', IsTup.new _ _⟩)
    exact ⟨.ref h'.objs.size, _, I2, rfl, q _ (I1.hok.fresh (Nat.le_refl _))⟩
  · obtain ⟨its, r', pl, hz⟩ := I.tuple hq
    exact call_tuple_same pl ⟨.ref p, H, I, rfl, q⟩

/-! ### the call of a builtin's method: o.m(..) -/
/-- the value is of that builtin type -/
def tyV (K : PySem.W.Frag) (T : String) (x : V) (H : Hp) : Prop := match x with
  | .str _ => T = "str"
  | .int _ => T = "int"
  | .ref p => (T = "list" ∧ ∃ xs, SqL K H p xs) ∨ (T = "tuple" ∧ ∃ o, K.lookup p = some o ∧ o.cls = .type "tuple" ∧ o.dict = none) ∨
      (T = "dict" ∧ ((∃ kvs, H p = some (.dK kvs)) ∨ ∃ kvs, H p = some (.dT kvs))) ∨ (T = "set" ∧ ∃ S n, H p = some (.set S n))
  | _ => False
theorem tyV_is {pins : List (Addr × Obj)} {σ : St} {H : Hp} {s : Shared} {T : String} {x : V} {v : Value} (I : Inv X pins σ H s) (r : RelV x v) (ty : tyV X.K T x H) :
    s.TypeIs v T ∧ ∀ a, v = .ref a → ∃ ob, s.heap.get? a = some ob ∧ ob.dict = none := by
  cases x with
  | str z =>
    obtain ⟨t, rfl⟩ := r
    cases (show T = "str" from ty)
    exact ⟨typeIs_str s z t, fun _ e => nomatch e⟩
  | int i =>
    obtain ⟨t, rfl⟩ := r
    cases (show T = "int" from ty)
    exact ⟨typeIs_int s i t, fun _ e => nomatch e⟩
  | ref p =>
    cases r
    rcases ty with ⟨rfl, xs, hq⟩ | ⟨rfl, o, hk, hc, hd⟩ | ⟨rfl, hk⟩ | ⟨rfl, S, n, hk⟩
    · obtain ⟨its, _, pl, _⟩ := I.list hq
      refine ⟨pl.isList.typeIs, fun a e => ?_⟩
      cases e
      obtain ⟨o, n, e, c, hd, _⟩ := pl
      exact ⟨o, e, hd⟩
    · refine ⟨⟨o, I.kIn p o hk, hc⟩, fun a e => ?_⟩
      cases e
      exact ⟨o, I.kIn _ o hk, hd⟩
    · have z : ∃ o, s.heap.get? p = some o ∧ o.ExactDict := by
        rcases hk with ⟨kvs, hk⟩ | ⟨kvs, hk⟩
        · obtain ⟨_, _, _, _, o, _, _, e, ex, _⟩ := I.hok p _ hk
          exact ⟨o, e, ex⟩
        · obtain ⟨_, _, _, _, o, _, _, e, ex, _⟩ := I.hok p _ hk
          exact ⟨o, e, ex⟩
      obtain ⟨o, e, ex⟩ := z
      refine ⟨⟨o, e, ex.1⟩, fun a e2 => ?_⟩
      cases e2
      exact ⟨o, e, ex.2.1⟩
    · obtain ⟨o, _, _, _, e, ex, _⟩ := I.hok p _ hk
      refine ⟨⟨o, e, ex.1⟩, fun a e2 => ?_⟩
      cases e2
      exact ⟨o, e, ex.2.1⟩
  | _ => exact False.elim ty
def tBM (K : PySem.W.Frag) (T : String) (r : V → List V → Hp → VK → Prop) (to : TE) (t : TA) : TE := fun σ H Q => to σ H fun x H1 => tyV K T x H1 ∧ t σ H1 fun xs H2 => r x xs H2 Q
variable {o e : Expr} {es : List Expr} {to : TE} {t : TA} {name : Str} {apos cpos : Pos} {T id : String} {r : V → List V → Hp → VK → Prop}
theorem pe_bm (pa : PlainAttrs T) (slot : Slot T name id) (hty : typeOf (.builtin id) = pure (.type "method_descriptor")) (hm : MtR X id r) (ho : PE X o to) (ha : PA X (e :: es) t)
    (hbase : attributeBase o name X.env (eval o X.env) = eval o X.env := by rfl)
    (hfew : ((backTo cpos (starEach (e :: es) X.env)).all (fun x => !x.1) && (backToKw cpos (keywordEach [] X.env)).all (fun x => x.1.isSome)
      && decide ((e :: es).length + ([] : List Keyword).length + (if ([] : List Keyword).isEmpty then 0 else 1) < 30)) = true := by rfl)
    (hline : (apos.endLine == cpos.line) = true := by rfl) (hs : starEach (e :: es) X.env = (false, eval e X.env) :: starEach es X.env := by rfl) (hplain : (backTo cpos (starEach es X.env)).any (·.1) = false := by rfl) :
    PE X (.Call (.Attribute o name apos) (e :: es) [] cpos) (tBM X.K T r to t) := by
  intro pins s σ H Q I h
  refine wpAny_Call_method_late hbase hfew hline rfl (thn (ho pins s σ H _ I h) fun v s1 ⟨x, H1, I1, r1, ty, q1⟩ => ?_)
  obtain ⟨h1, h2⟩ := tyV_is I1 r1 ty
  refine ⟨T, id, pa, slot, hty, h1, h2, ?_⟩
  have hA := ha cpos pins s1 σ H1 _ I1 q1
  rw [hs] at hA ⊢
  refine Calls.callWith_builtin (by show (false || (backTo cpos (starEach es X.env)).any (·.1)) = false; rw [hplain] <;> rfl) (Calls.evalArgs_plain ?_)
  exact thn hA fun us s2 ⟨vs, H2, I2, r2, q2⟩ => hm pins s2 σ H2 x vs v us Q I2 r1 r2 q2
/- xs.append(e), list.index on a module's tuple .. are MtR facts of 06m -/
end
end L2

namespace L2
open PySem PySem.Spec PyProof.Rows

def MtM (X : Cx) (id : String) (r : V → List V → Hp → VK → Prop) : Prop :=
  ∀ (pins : List (Addr × Obj)) (s : Shared) (σ : St) (H : Hp) (x : V) (xs : List V) (v : Value) (us : List Value) (Q : VK), Inv X pins σ H s → RelV x v → Vals xs us → r x xs H Q →
    wpAny (model X.prog X.w) X.A (call (.builtin id) (v :: us)) (EP X pins σ Q) X.xe s

/-! ### lists of values -/
theorem Vals.one : ∀ {x : V} {us : List Value}, Vals [x] us → ∃ u, us = [u] ∧ RelV x u
  | _, _, .cons r .nil => ⟨_, rfl, r⟩

section
variable {X : Cx} {pins : List (Addr × Obj)} {σ : St} {H : Hp} {s : Shared} {l b : Addr} {xs ys zs : List V}

/-! ### the two steps: a tracked list is rewritten, a new list is laid -/
theorem Inv.lset {its its' : List Value} {n : Nat} {f : Array Value → Array Value} {t' : Nat} (I : Inv X pins σ H s) (hH : H l = some (.lst xs))
    (e : s.heap.get? l = some { cls := .type "list", data := .seq its.toArray n }) (hf : f its.toArray = its'.toArray) (hv : Vals ys its') (hz : ys.length ≤ sizeLine) :
    Inv X pins σ (upd H l (.lst ys)) { s with heap := s.heap.update l (Obj.mapSeq f), toks := t' } := by
  have q := PySem.IsL.update e f
  rw [hf] at q
  refine I.write (x := l) (e := l) (by rw [hH]; exact trivial) (.inl rfl) (fun b' u hb hu => (Heap.get?_update_other s.heap (Obj.mapSeq f) (Ne.symm hb)).trans hu) ⟨_, q⟩ ?_
  exact ⟨hz, its', _, hv, q⟩
theorem Inv.lnew {its : List Value} {t' : Nat} (I : Inv X pins σ H s) (hv : Vals ys its) (hz : ys.length ≤ sizeLine) :
    Inv X pins σ (upd H s.heap.objs.size (.lst ys)) { s with heap := s.heap.push { cls := .type "list", data := .seq its.toArray }, toks := t' } :=
  I.laid (fun _ _ q => Heap.get?_push_of_some _ q) (Nat.le_refl _) ⟨hz, its, 0, hv, Heap.get?_push_size _ rfl⟩
theorem Inv.fresh (I : Inv X pins σ H s) : H s.heap.objs.size = none := I.hok.fresh (Nat.le_refl _)
theorem Inv.lstM (I : Inv X pins σ H s) (hH : H l = some (.lst xs)) : xs.length ≤ sizeLine ∧ ∃ (its : List Value) (n : Nat), Vals xs its ∧ xs.length = its.length ∧ s.heap.get? l = some { cls := .type "list", data := .seq its.toArray n } := by
  obtain ⟨z, its, n, r, e⟩ := I.hok l _ hH
  exact ⟨z, its, n, r, r.length, e⟩

end

section
variable {X : Cx}

/-! ### methods -/
def rAppend : V → List V → Hp → VK → Prop := fun x vs H Q => ∃ l xs y, x = .ref l ∧ vs = [y] ∧ H l = some (.lst xs) ∧ xs.length < sizeLine ∧ Q .non (upd H l (.lst (xs ++ [y])))
theorem mt_append : MtM X "list.append" rAppend := by
  intro pins s σ H x vs v us Q I rx rv h
  obtain ⟨l, xs, y, rfl, rfl, hH, hz, q⟩ := h
  cases rx
  obtain ⟨u, rfl, ru⟩ := rv.one
  obtain ⟨z, its, n, r, hl, e⟩ := I.lstM hH
  refine call_meets F.slot_list_append ⟨_, e, rfl⟩ F.entry_list_append (F.args_list_append_2 _ _) (PySem.list_append l its.toArray n u (by rw [List.size_toArray]; omega)) ⟨e, ?_⟩
  refine ⟨.non, _, I.lset (its' := its ++ [u]) hH e (by simp) (r.append (.cons ru .nil)) ?_, rfl, q⟩
  rw [List.length_append, List.length_singleton]
  omega






/-! ### list + list, list += list, list * int -/

/-! ### del xs[i] -/
end

/-! ### xs[a:b] = ys -/
section
variable {prog : Program} {w : World} {A : Around} {E : Value → Shared → Prop} {s : Shared}
set_option maxRecDepth 100000 in
end

section
variable {X : Cx}
end
end L2

namespace Att
open PySem PySem.W PySem.Calls PyProof.Rows

/-! ### the script -/
theorem ints_of_wellAll {P : Params} {h : Heap} : ∀ (ns : List Int) (vs : List Value), WellAll P h vs (ns.map WData.int) → IntsAre vs ns := by
  intro ns
  induction ns with
  | nil =>
    intro vs w
    rw [List.map_nil] at w
    cases w
    exact .nil
  | cons n ns ih =>
    intro vs w
    rw [List.map_cons] at w
    cases w with
    | cons a b =>
      cases a
      exact .cons _ _ (ih _ b)

theorem script_of {l : OpenLaw} {n : Nat} (hn : l.most = some n) {P : Params} {h : Heap} {args : List WData} {vals : List Value}
    (hpre : l.row.toRowW.claim.pre args = true) (hwl : WellAll P h vals args) :
    ∃ a vs ns, vals = [Value.ref a] ∧ args = [WData.list (ns.map WData.int)] ∧ h.get? a = some { cls := .type "list", data := .seq vs.toArray } ∧ IntsAre vs ns ∧ ns.length ≤ n := by
  have hsh : WShape.hasAll [] args [.list .int] = true := (pre_splitW hpre).1
  have hc : l.pre.holds [] { args := args } = true := (pre_splitW hpre).2
  obtain ⟨d, r, rfl, h1, h2⟩ := hasAllW_cons hsh
  obtain rfl := hasAllW_nil h2
  obtain ⟨xs, rfl, h3⟩ := hasW_list h1
  obtain ⟨ns, rfl⟩ := items_int h3
  have hlen : ns.length ≤ n := by
    unfold OpenLaw.pre at hc
    have h4 : (WTm.not (.lt (.lit (.int (n : Int))) (.len (.arg 0)))).holds [] { args := [.list (ns.map .int)] } = true := by
      have h4 := (holds_andW hc).1
      rw [hn] at h4
      exact h4
    have h5 := condW_of h4 (w_not (w_lt w_lit (w_len_list (w_arg rfl))))
    rw [List.length_map] at h5
    refine Nat.le_of_not_lt fun q => ?_
    have q' : (n : Int) < ((ns.length : Nat) : Int) := by omega
    first
      | (rw [decide_eq_true q'] at h5; exact absurd h5 (by decide))
      | (simp at h5; omega)
  cases hwl with
  | cons w1 w2 =>
    cases w2
    cases w1 with
    | list ho hall => exact ⟨_, _, ns, rfl, rfl, ho, ints_of_wellAll ns _ hall, hlen⟩

theorem post_true (l : OpenLaw) (args : List WData) : l.row.toRowW.claim.post args (.bool true) args = true :=
  postW_of (r := l.row.toRowW) (X := (true == true))
    (show WShape.has [] (.bool true) .bool = true by first | rfl | decide | simp [WShape.has, WShape.arms, WShape.armsAll])
    (show (WTm.eq .res (.lit (.bool true))).value [] { args := args, res := some (.bool true), after := args } = some (.bool (true == true)) from w_eq_bool (w_res rfl) w_lit) rfl

/-! ### the attachment: holds_open's last premise (the goal 'hc' behind k_head) from a wpAny of the law's body -/

/-- the same from a codeAny of the CALL (for a layer whose function contracts speak of calls) -/
theorem attach_call {l : OpenLaw} {n : Nat} {q : Program} {loose : List Str} {XP : (Str → Option Value) → Heap → Prop} {YP : World → Heap → Prop} {d : DefRec}
    (hn : l.most = some n) (hdf : d.params.defaults = [])
    (call : ∀ (w : World) (s₀ s₁ : Shared) (mg mb : Str → Option Value) (fa : Addr) (o : Obj) (pm cd doc : Value) (a : Addr) (vs : List Value) (ns : List Int),
      Ground q loose [] XP w s₀ mg mb s₁.heap → YP w s₁.heap →
      s₁.heap.get? fa = some o → o.data = .func (docDef d.name d.params d.body d.scope pm cd doc) → s₁.heap.CodeRec cd d.name → mg d.name = some (.ref fa) →
      s₁.heap.get? a = some { cls := .type "list", data := .seq vs.toArray } → IntsAre vs ns → ns.length ≤ n → s₁.gens = #[] →
      codeAny (model l.prog w) callerA (.call (.ref fa) ⟨[.ref a], []⟩) (fun r s' => r = .ok (.ret (.bool true)) ∧ OldK s₁.heap s'.heap ∧ s'.os = s₁.os ∧ AllBare s'.gens) s₁) :
    WalkO q loose XP YP l.row.toRowW d [] (fun f vs => PySem.call f vs) := by
  intro w s₀ s₁ mg mb G Y fa o pm cd doc dV kV ho hd hcd hD hmg hg args vals as hpre hlay hrd hwl hlo
  obtain rfl : dV = .none := Dflts.none hD hdf
  obtain rfl : kV = .none := Dflts.noKw hD
  obtain ⟨a, vs, ns, rfl, rfl, hobj, hints, hlen⟩ := script_of hn hpre hwl
  refine enter_call (codeAny_mono (call w s₀ s₁ mg mb fa o pm cd doc a vs ns G Y ho (fd_plain hd) hcd hmg hobj hints hlen hg) fun r s' hq => ?_)
  obtain ⟨rfl, h2, h3, h4⟩ := hq
  exact ⟨.inl ⟨.bool true, .bool true, [], rfl, fun _ => rfl, .bool true, post_true l _, fun _ => ⟨List.Pairwise.nil, fun _ hm => (nomatch hm)⟩⟩, h2, h3, h4⟩


/-! ### rules over ANY heap (no ledger) from facts about the written part K: the library's own take a ledger (News) for what they write -/
section
variable {prog : Program} {w : World} {A : Around} {E : Value → Shared → Prop} {s : Shared} {K : Frag}





/-! the whole heap as the ledger: makes every rule that writes through a ledger a rule over any heap -/

end
end Att

namespace L2
open PySem PySem.Spec PyProof.Rows

theorem vals_ints : ∀ {vs : List Value} {ns : List Int}, IntsAre vs ns → Vals (ns.map V.int) vs
  | _, _, .nil => .nil
  | _, _, .cons n t h => .cons ⟨t, rfl⟩ (vals_ints h)

/-- nothing is tracked but the script, known to the object (or it is an object of the module) -/
def Only (H : Hp) : Prop := ∀ b, H b = none ∨ ∃ o xs, H b = some (.frz o (.lst xs))

/-- THE HEAD: the law's promise, at the heap behind the top. F, the promise of the law's def, may use that base is part of the heap (so K.In base, base.Ns mainGlobals mg stand in Mod) -/
theorem law_call {P : Program} {w : World} {K : PySem.W.Frag} {mg mb : Str → Option Value} {CX : CXT} {k : Nat} {fa a : Addr} {fd : FuncData} {x : Str} {sp : Sp} {s₁ : Shared} {vs : List Value} {ns : List Int}
    (KX : K.In s₁.heap) (hns : s₁.heap.Ns mainGlobals mg) (hb : s₁.heap.Ns builtinsNs mb) (hbb : ∀ x : Str, x ≠ "__name__" → mb x = bootBuiltins x) (hlim : s₁.heap.NoLimit) (hg : s₁.gens = #[])
    (ha : s₁.heap.get? a = some { cls := .type "list", data := .seq vs.toArray }) (hi : IntsAre vs ns) (hl : ns.length ≤ sizeLine) (hr : Room k callerA)
    (F : ∀ base : Heap, K.In base → base.Ns mainGlobals mg → FnOk P w K mg base CX k fa fd [x] sp) (hbind : ∀ (s : Shared) (u : Value), BindsTo s fd ⟨[u], []⟩ [(x, u)])
    (hsp : ∀ H : Hp, Only H → SqL K H a (ns.map V.int) → sp [.ref a] H (fun v _ => v = .bl true) fun _ _ _ => False)
    (hCX : ∀ H e s', CX [] H s₁ (fun _ _ _ => False) e s' → False) :
    codeAny (model P w) callerA (.call (.ref fa) ⟨[.ref a], []⟩) (fun r s' => r = .ok (.ret (.bool true)) ∧ OldK s₁.heap s'.heap ∧ s'.os = s₁.os ∧ AllBare s'.gens) s₁ := by
  have rv := vals_ints hi
  have lenV := hi.length
  -- from an abstract heap in which nothing but the script may be tracked
  have core : ∀ H : Hp, Only H → SqL K H a (ns.map V.int) → HOk P w H s₁.heap → (∀ b, H b ≠ none → b = a) → (H a ≠ none → K.lookup a = none) →
      codeAny (model P w) callerA (.call (.ref fa) ⟨[.ref a], []⟩) (fun r s' => r = .ok (.ret (.bool true)) ∧ OldK s₁.heap s'.heap ∧ s'.os = s₁.os ∧ AllBare s'.gens) s₁ := by
    intro H hO hS hok hA hK
    have base_of : ∀ {b : Addr} {o : Obj}, s₁.heap.get? b = some o → H b = none → (hidT s₁.heap H).get? b = some o := fun e n => hidT_get e n
    have noA : ∀ {b : Addr} {o : Obj} {es : Array DictEntry} {ep : Nat}, s₁.heap.get? b = some o → o.data = .dict es ep → H b = none := fun {b o es ep} e d => by
      cases q : H b with
      | none => rfl
      | some u =>
        have e' : b = a := hA b (by rw [q]; simp)
        subst e'
        rw [ha] at e; cases e
        have d' : Data.seq vs.toArray _ = Data.dict es ep := d
        cases d'
    have nsK : ∀ {b : Addr} {m : Str → Option Value}, s₁.heap.Ns b m → (hidT s₁.heap H).Ns b m := fun {b m} ⟨o, es, ep, e, d, r⟩ => ⟨o, es, ep, base_of e (noA e d), d, r⟩
    have hKb : K.In (hidT s₁.heap H) := fun b o e => base_of (KX b o e) (by
      cases q : H b with
      | none => rfl
      | some u =>
        have e' : b = a := hA b (by rw [q]; simp)
        subst e'
        rw [hK (by rw [q]; simp)] at e; cases e)
    have hM : Mod K mg (hidT s₁.heap H) := ⟨hKb, nsK hns, ⟨mb, nsK hb, hbb⟩, let ⟨mc, h1, h2⟩ := hlim; ⟨mc, nsK h1, h2⟩⟩
    have e0 : Env0 P w K mg (hidT s₁.heap H) callerA [] s₁ H := ⟨rfl, hM, fun b o e => of_hidT e, Nat.le_of_eq (hidT_size _ _), trivial, fun b hb => absurd (show b ∈ ([] : List Addr) from hb) (by simp), hok, .of_eq hg⟩
    refine codeAny_mono ((F _ hKb (nsK hns)).run callerA [] s₁ H ⟨[.ref a], []⟩ [.ref a] [.ref a] _ _ hr e0 (hbind s₁ (.ref a)) (.cons rfl .nil) (hsp H hO hS)) fun r s' h => ?_
    cases r with
    | error e => exact (hCX H e s' h).elim
    | ok fl =>
      cases fl with
      | next => exact False.elim h
      | brk => exact False.elim h
      | cont => exact False.elim h
      | ret u =>
        obtain ⟨v, H', os, bare, un, hok', r', q⟩ := h
        have q' : v = .bl true := q
        subst q'
        obtain rfl : u = Value.bool true := r'
        refine ⟨rfl, OldK.of_keep fun b o e => ?_, os, bare⟩
        cases q : H b with
        | none => exact un.keep b o e q (by intro z; exact absurd (show b ∈ ([] : List Addr) from z) (by simp)) (by simp)
        | some u =>
          rcases hO b with z | ⟨ob, xs, z⟩
          · rw [q] at z; cases z
          · have z2 := un.frzs b ob _ z
            obtain ⟨e1, _⟩ := hok b _ z
            obtain ⟨e2, _⟩ := hok' b _ z2
            rw [e] at e1; cases e1
            exact e2
  cases hk : K.lookup a with
  | some o =>
    -- the script is one of the module's own objects
    have e := KX a o hk
    rw [ha] at e
    cases e
    refine core (fun _ => none) (fun _ => .inl rfl) (.inr ⟨_, vs.toArray, _, hk, rfl, rfl, rfl, by rw [List.size_toArray, lenV]; exact hl, by simpa using rv⟩) (fun b u z => by have z' : (none : Option HO) = some u := z; cases z') (fun b z => absurd rfl z) fun z => absurd rfl z
  | none =>
    refine core (fun b => if b = a then some (.frz { cls := .type "list", data := .seq vs.toArray } (.lst (ns.map V.int))) else none) (fun b => ?_) (.inl (.inr ⟨{ cls := .type "list", data := .seq vs.toArray }, if_pos rfl⟩)) (fun b u z => ?_) (fun b z => ?_) fun _ => hk
    · by_cases hb : b = a
      · exact .inr ⟨_, _, if_pos hb⟩
      · exact .inl (if_neg hb)
    · by_cases hb : b = a
      · have z' := (if_pos hb).symm.trans z
        cases z'
        subst hb
        exact ⟨ha, by rw [List.length_map]; exact hl, vs, _, rv, ha⟩
      · have z' := (if_neg hb).symm.trans z
        cases z'
    · by_cases hb : b = a
      · exact hb
      · exact absurd (if_neg hb) z
end L2

namespace L2
open PySem PySem.Spec PyProof.Rows


/-- the goal that k_head leaves (case hc), from the law's promise. F gives the function object fd (K's own) once, then the promise over every base -/
theorem walk_of {l : PySem.W.OpenLaw} {n k : Nat} {q : Program} {loose : List Str} {XP : (Str → Option Value) → Heap → Prop} {YP : World → Heap → Prop} {d : DefRec} {K : Params → PySem.W.Frag} {CX : World → CXT} {sp : World → Sp} {x : Str}
    (hn : l.most = some n) (hn2 : n ≤ sizeLine) (hdf : d.params.defaults = []) (hr : Room k callerA)
    (hY : ∀ (w : World) (h : Heap), YP w h → (K w.params).In h)
    (F : ∀ (w : World) (mg : Str → Option Value) (fa : Addr) (h : Heap), (K w.params).In h → h.Ns mainGlobals mg → mg d.name = some (.ref fa) →
      ∃ fd : FuncData, (∀ (s : Shared) (u : Value), BindsTo s fd ⟨[u], []⟩ [(x, u)]) ∧
        ∀ base : Heap, (K w.params).In base → base.Ns mainGlobals mg → FnOk l.prog w (K w.params) mg base (CX w) k fa fd [x] (sp w))
    (hsp : ∀ (w : World) (H : Hp) (a : Addr) (ns : List Int), ns.length ≤ n → Only H → SqL (K w.params) H a (ns.map V.int) → sp w [.ref a] H (fun v _ => v = .bl true) fun _ _ _ => False)
    (hCX : ∀ (w : World) (H : Hp) (s : Shared) (e : Value) (s' : Shared), CX w [] H s (fun _ _ _ => False) e s' → False) :
    PySem.W.WalkO q loose XP YP l.row.toRowW d [] (fun f vs => PySem.call f vs) := by
  refine Att.attach_call hn hdf fun w s₀ s₁ mg mb fa o pm cd doc a vs ns G Y ho hd hcd hmg hobj hints hlen hg => ?_
  have KX := hY w _ Y
  obtain ⟨fd, hb, hF⟩ := F w mg fa _ KX G.T.g hmg
  exact law_call KX G.T.g G.T.b G.T.builtins G.T.nolimit hg hobj hints (Nat.le_trans hlen hn2) hr hF hb (fun H hO hS => hsp w H a ns hlen hO hS) fun H e s' => hCX w H s₁ e s'
end L2

/- THE LAST THEOREM (shape; LID, My.* are yours):
   My.Adr: a structure of the addresses that your layer names (classes, functions); My.Txt K t: a structure (Prop) of the equations over K;
   My.txt_mk : {K} {implicit addresses ..} (e1 : nsIn K mainGlobals "law" = some (some (.ref f))) (e2 : K.lookup f = some ⟨oc, od, .func (fnOf "law" "law" params body scope dV kV doc pm an cdv ct), sl⟩) (e3 : codeIn K cdv "law" = true) .. : ∃ t, My.Txt K t

set_option maxRecDepth 100000 in
set_option maxHeartbeats 0 in
theorem PySem.Challenge.cw_LID_holds : PySem.Challenge.rw_LID.Holds := by
  w_on; o_law; k_head; (case hw => w_witness2)
  k_fill
  refine L2.walk_of (l := PySem.Challenge.rw_LID) (n := 63) (k := 40) (x := "script") (CX := fun w => ..) (sp := fun _ => My.sp_law) rfl (by decide) rfl ⟨rfl, by decide, by decide⟩ (fun w h Y => PySem.W.kIn_of Y) ?F ?S ?C
  case F =>
    intro w mg fa h KX G hmg
    have T : ∃ t, My.Txt (L2.KOf KX) t := by
      dsimp only [L2.KOf]                          -- K must stand as «<heap const> w.params» for k_is
      refine' My.txt_mk ?e1 ?e2 ?e3 ..
      (case e1 => PySem.W.k_is)                    -- in the order: a name -> its address -> its object -> its parts
      (case e2 => PySem.W.k_is)
      ..
    obtain ⟨t, T⟩ := T
    have e0 := hmg.symm.trans (PySem.W.mg_of KX G T.law)
    cases e0                                       -- fa is the law's own address
    exact ⟨_, fun s u => .of_eq rfl, fun base kb nb => My.law_fn T kb nb⟩     -- if «.of_eq rfl» comes too early: refine' ⟨_, ?b, fun base kb nb => My.law_fn T kb nb⟩; exact fun s u => .of_eq rfl
  case S => exact fun w H a ns hl hO hS => ..
  case C => exact ..
(the tactic k_is has no namespace: write k_is) -/

/-! SHORT WORDS over the layer: a def of the text, its body, what a loop and a test want. -/
namespace L2
open PySem PySem.Spec PyProof.Rows

/-! ### the text by places -/
def defArgs (s : Stmt) : Arguments := match s with
  | .FunctionDef _ a _ _ _ _ _ _ _ _ => a
  | _ => { posonlyargs := [], args := [], vararg := none, kwonlyargs := [], kw_defaults := [], kwarg := none, defaults := [] }
def defBody (s : Stmt) : List Stmt := match s with
  | .FunctionDef _ _ b _ _ _ _ _ _ _ => b
  | _ => []
def defScope (s : Stmt) : Scope := match s with
  | .FunctionDef _ _ _ _ _ _ sc _ _ _ => sc
  | _ => { kind := .function, names := [], isGenerator := false, isCoroutine := false }

/-! ### no exception leaves a def -/
abbrev CX0 : CXT := fun _ _ _ _ _ _ => False
abbrev E0 : XK := fun _ _ _ => False
theorem pass0 {X : Cx} : Passes CX0 X E0 := fun _ _ _ _ _ _ _ h => h.elim

/-! ### a def (or method) of the text as it stands behind the top -/
structure Fun (K : PySem.W.Frag) (x qual : Str) (st : Stmt) (f : Addr) (fd : FuncData) : Prop where
  ex : ∃ (oc : Value) (od : Option Addr) (kV doc pm : Value) (an : Option Addr) (cdv ct : Value) (osl : Array (Option Value)),
    fd = PySem.W.fnOf x qual (defArgs st) (defBody st) (defScope st) .none kV doc pm an cdv ct ∧ K.lookup f = some ⟨oc, od, .func fd, osl⟩ ∧ PySem.W.codeIn K cdv qual = true
  kp : PySem.W.keepIn K (.ref f) = true
section
variable {P : Program} {w : World} {K : PySem.W.Frag} {mg : Str → Option Value} {base : Heap}
/-- THE RULE for a def: its body as a term of rules, and the reading of that term -/
theorem Fun.ok {x qual : Str} {st : Stmt} {f : Addr} {fd : FuncData} {N ps : List Str} {k : Nat} {sp : Sp} (F : Fun K x qual st f fd) (S : FnScope N ps (defScope st)) (len : ∀ vs H Q E, sp vs H Q E → vs.length = ps.length)
    (hbody : ∀ (cdv : Value) (A : Around) (outer : List Env) (s : Shared) (H : Hp) (vs : List V) (Q : VK) (E : XK), Room k (A.deeper (envOfC qual (defScope st) s.heap.objs.size f cdv)) → sp vs H Q E →
      ∃ t, PSs (cxOf CX0 P w K mg base N qual (defScope st) f cdv A outer s H E).nox (defBody st) t ∧ t { nx := fun _ H' => Q .non H', rt := Q } (start N vs) H) : FnOk P w K mg base CX0 (k + 1) f fd ps sp := by
  obtain ⟨oc, od, kV, doc, pm, an, cdv, ct, osl, rfl, lk, hcd⟩ := F.ex
  refine fn_of lk hcd S len fun A outer s H vs Q E hr hsp => ?_
  obtain ⟨t, h, q⟩ := hbody cdv A outer s H vs Q E hr hsp
  exact ⟨t, h.nox, q⟩
theorem fun_mk {x qual : Str} {st : Stmt} {f : Addr} {oc : Value} {od an : Option Addr} {osl : Array (Option Value)} {kV doc pm cdv ct : Value} (l : K.lookup f = some ⟨oc, od, .func (PySem.W.fnOf x qual (defArgs st) (defBody st) (defScope st) .none kV doc pm an cdv ct), osl⟩)
    (c : PySem.W.codeIn K cdv qual = true) (k : PySem.W.keepIn K (.ref f) = true) : Fun K x qual st f (PySem.W.fnOf x qual (defArgs st) (defBody st) (defScope st) .none kV doc pm an cdv ct) := ⟨⟨oc, od, kV, doc, pm, an, cdv, ct, osl, rfl, l, c⟩, k⟩
end
theorem hu_of {A : Around} {k : Nat} (hr : Room k A) : A.units + 1 < cLine := Nat.lt_of_le_of_lt (Nat.add_le_add_left (by decide : 1 ≤ 64) _) hr.units

/-! ### expressions in short: the name that stands in the i-th slot -/
section
variable {X : Cx}
end

/-! ### tests -/
theorem iteF {A B : Prop} (h : B) : if false = true then A else B := by
  rw [if_neg Bool.false_ne_true]
  exact h
theorem iteT {A B : Prop} (h : A) : if true = true then A else B := by
  rw [if_pos rfl]
  exact h

/-! ### heaps -/
/-- all that was tracked is as it was -/
def Same (H H' : Hp) : Prop := ∀ b o, H b = some o → H' b = some o
theorem Same.refl (H : Hp) : Same H H := fun _ _ h => h
theorem Same.trans {H H1 H2 : Hp} (a : Same H H1) (b : Same H1 H2) : Same H H2 := fun c o h => b c o (a c o h)
theorem Same.free {H H' : Hp} (e : Same H H') {l : Addr} (h : H' l = Option.none) : H l = Option.none := by
  cases q : H l with
  | none => rfl
  | some o =>
    rw [e l o q] at h
    cases h
theorem Same.seq {K : PySem.W.Frag} {H H' : Hp} {a : Addr} {xs : List V} (e : Same H H') (h : SqL K H a xs) : SqL K H' a xs := by
  rcases h with (h | ⟨o, h⟩) | h
  · exact .inl (.inl (e _ _ h))
  · exact .inl (.inr ⟨o, e _ _ h⟩)
  · exact .inr h

end L2

set_option Elab.async false
set_option linter.all false
set_option maxRecDepth 100000
set_option maxHeartbeats 4000000
/-! ### the table of a set of tuples: a new one always finds its slot -/
namespace L2
open PySem PySem.Spec PyProof.Rows

/-! a clean table -/
def cntS (o : Array (Option Nat)) : Nat := o.toList.countP Option.isSome

/-! the search -/
end L2

set_option Elab.async false
set_option linter.all false
set_option maxRecDepth 100000
set_option maxHeartbeats 4000000
namespace L2
open PySem PySem.Spec PyProof.Rows
section
variable {prog : Program} {w : World} {A : Around} {E : Value → Shared → Prop} {s : Shared}
end
end L2

set_option Elab.async false
set_option linter.all false
set_option maxRecDepth 100000
set_option maxHeartbeats 4000000
namespace L2
open PySem PySem.Spec PyProof.Rows
section
variable {prog : Program} {w : World} {A : Around} {R : Result → Shared → Prop} {I : Addr} {fp wr : List Addr} {G : Array GenState → Array GenState → Prop} {n : Nat} {P : Nat → Value → Prop} {St : Nat → Shared → Prop}
end
section
variable {prog : Program} {w : World} {A : Around} {E : Value → Shared → Prop} {s : Shared}
end
end L2

set_option linter.all false
namespace L2
open PySem
end L2

set_option Elab.async false
set_option linter.all false
set_option maxRecDepth 100000
set_option maxHeartbeats 4000000
/-! ### comprehensions: the block as a context of its own -/
namespace L2
open PySem PySem.Spec PyProof.Rows

abbrev NoX : Value → Shared → Prop := fun _ _ => False
abbrev testsOf (ifs : List Expr) (env : Env) : Sem Bool :=
  forIn ifs true fun c r => if r = true then (do let ok ← isTrue c env (eval c env); pure (ForInStep.yield ok)) else pure (ForInStep.yield r)


theorem comp_loop {P : Program} {w : World} {A : Around} {R : Result → Shared → Prop} {elt tg iter : Expr} {ifs : List Expr} {sc : Scope} {pos : Pos} {it acc : Value} {env : Env} (J : Nat → Shared → Prop)
    (turn : ∀ n s, J n s → wpAny (model P w) A (pyNext it) (fun r s1 => match r with
      | none => R (.ok .next) s1
      | some v => wpAny (model P w) A (letOwnedTupleGo tg it v) (fun _ s2 => wpAny (model P w) A (assign tg env v) (fun _ s3 =>
          wpAny (model P w) A (testsOf ifs env) (fun ok s4 => if ok = true then wpAny (model P w) A (eval elt env) (fun x s5 =>
              wpAny (model P w) A (call (.builtin "list.append") [acc, x]) (fun _ s6 => ∃ m, m < n ∧ J m s6) NoX s5) NoX s4
            else ∃ m, m < n ∧ J m s4) NoX s3) NoX s2) NoX s1) NoX s)
    {n : Nat} {s : Shared} (h : J n s) : codeAny (model P w) A (.compLoop (.ListComp elt [⟨tg, iter, ifs, 0⟩] sc pos) 0 it acc env) R s := by
  refine codeAny_loop rfl J (fun n s hJ => ?_) n h
  show wpAny _ A ((compTurn (.ListComp elt [⟨tg, iter, ifs, 0⟩] sc pos) 0 it acc env).onRaise (fun x => do noteFrame x env; theTreesLotGoes x)) _ _ s
  refine wpAny_noted ?_
  rw [compTurn_list]
  refine wpAny_bind (wpAny_standAt (wpAny_bind (wpAny_mono (turn n s hJ) (fun r s1 h1 => ?_) fun _ _ f => f.elim)))
  cases r with
  | none => exact wpAny_pure h1
  | some v =>
    refine wpAny_bind (wpAny_mono h1 (fun _ s2 h2 => ?_) fun _ _ f => f.elim)
    refine wpAny_bind (wpAny_mono h2 (fun _ s3 h3 => ?_) fun _ _ f => f.elim)
    refine wpAny_bind (wpAny_mono h3 (fun ok s4 h4 => ?_) fun _ _ f => f.elim)
    cases ok with
    | false => exact wpAny_pure ⟨rfl, h4⟩
    | true =>
      refine wpAny_bind (wpAny_bind (wpAny_mono h4 (fun x s5 h5 => ?_) fun _ _ f => f.elim))
      exact wpAny_bind (wpAny_mono h5 (fun _ s6 h6 => wpAny_pure (wpAny_pure ⟨rfl, h6⟩)) fun _ _ f => f.elim)

/-- the cells that a block closes over -/
def closL (env : Env) : List (Str × NameKind) → List (Str × Addr) → Option (List (Str × Addr))
  | [], acc => some acc
  | (n, k) :: r, acc => if (k == NameKind.free) = true then (match env.cells.lookup n with
      | some c => closL env r ((n, c) :: acc)
      | none => none) else closL env r acc

theorem clos_go (env : Env) : ∀ (names : List (Str × NameKind)) (acc cl : List (Str × Addr)), closL env names acc = some cl →
    (forIn names acc fun (x : Str × NameKind) (r : List (Str × Addr)) => if (x.2 == NameKind.free) = true then (do let c ← cellOf env x.1; pure (ForInStep.yield ((x.1, c) :: r))) else pure (ForInStep.yield r) : Sem (List (Str × Addr))) = pure cl
  | [], acc, cl, h => by
    simp only [closL, Option.some.injEq] at h
    subst h
    rfl
  | (n, k) :: r, acc, cl, h => by
    rw [List.forIn_cons]
    unfold closL at h
    by_cases hk : (k == NameKind.free) = true
    · rw [if_pos hk] at h
      rw [if_pos (show ((n, k).2 == NameKind.free) = true from hk)]
      cases e : env.cells.lookup n with
      | none => rw [e] at h; cases h
      | some c =>
        rw [e] at h
        have e2 : cellOf env (n, k).1 = pure c := by unfold cellOf; rw [show List.lookup (n, k).1 env.cells = some c from e]
        rw [e2, pure_bind, pure_bind]
        exact clos_go env r _ cl h
    · rw [if_neg hk] at h
      rw [if_neg (show ¬ ((n, k).2 == NameKind.free) = true from hk), pure_bind]
      exact clos_go env r acc cl h
theorem clos_eq {sc : Scope} {env : Env} {cl : List (Str × Addr)} (h : closL env sc.names [] = some cl) : closureFor sc env = pure cl := by
  unfold closureFor
  have := clos_go env sc.names [] cl h
  simp only [bind_pure]
  exact this
theorem clos_sub {env : Env} : ∀ {names : List (Str × NameKind)} {acc cl : List (Str × Addr)}, closL env names acc = some cl → (∀ x c, acc.lookup x = some c → env.cells.lookup x = some c) → ∀ x c, cl.lookup x = some c → env.cells.lookup x = some c
  | [], acc, cl, h, ha => by
    simp only [closL, Option.some.injEq] at h
    subst h
    exact ha
  | (n, k) :: r, acc, cl, h, ha => by
    unfold closL at h
    by_cases hk : (k == NameKind.free) = true
    · rw [if_pos hk] at h
      cases e : env.cells.lookup n with
      | none => rw [e] at h; cases h
      | some c =>
        rw [e] at h
        refine clos_sub (names := r) h fun x d hx => ?_
        rw [List.lookup_cons] at hx
        cases hxn : x == n with
        | true =>
          rw [hxn] at hx
          have : x = n := by simpa using hxn
          subst this
          rw [e]; exact hx
        | false => rw [hxn] at hx; exact ha x d hx
    · rw [if_neg hk] at h
      exact clos_sub (names := r) h ha
theorem clos_has {env : Env} : ∀ {names : List (Str × NameKind)} {acc cl : List (Str × Addr)}, closL env names acc = some cl → ∀ x, ((x, NameKind.free) ∈ names ∨ ∃ c, acc.lookup x = some c) → ∃ c, cl.lookup x = some c
  | [], acc, cl, h, x, hx => by
    simp only [closL, Option.some.injEq] at h
    subst h
    rcases hx with hx | hx
    · exact absurd hx (by simp)
    · exact hx
  | (n, k) :: r, acc, cl, h, x, hx => by
    unfold closL at h
    by_cases hk : (k == NameKind.free) = true
    · rw [if_pos hk] at h
      cases e : env.cells.lookup n with
      | none => rw [e] at h; cases h
      | some c =>
        rw [e] at h
        refine clos_has (names := r) h x ?_
        rcases hx with hx | ⟨d, hx⟩
        · rcases List.mem_cons.mp hx with hx | hx
          · cases hx
            exact .inr ⟨c, by simp [List.lookup_cons]⟩
          · exact .inl hx
        · refine .inr ?_
          rw [List.lookup_cons]
          cases hxn : x == n with
          | true => exact ⟨_, rfl⟩
          | false => exact ⟨d, hx⟩
    · rw [if_neg hk] at h
      refine clos_has (names := r) h x ?_
      rcases hx with hx | hx
      · rcases List.mem_cons.mp hx with hx | hx
        · cases hx; exact absurd rfl hk
        · exact .inl hx
      · exact .inr hx
theorem relabel_free {env : Env} : ∀ {names : List (Str × NameKind)} {x : Str}, names.lookup x = some .free →
    (names.map fun (n, k) => if (k == NameKind.free && env.scope.kind == .function && env.kindOf n == some .cell) then (n, NameKind.cell) else (n, k)).lookup x = some .cell ∨
      (names.map fun (n, k) => if (k == NameKind.free && env.scope.kind == .function && env.kindOf n == some .cell) then (n, NameKind.cell) else (n, k)).lookup x = some .free
  | [], x, h => by simp at h
  | (n, k) :: r, x, h => by
    have ih := @relabel_free env r x
    rw [List.map_cons]
    dsimp only
    by_cases hb : (k == NameKind.free && env.scope.kind == .function && env.kindOf n == some .cell) = true
    · rw [if_pos hb]
      cases hx : x == n with
      | true => simp [List.lookup_cons, hx]
      | false =>
        simp only [List.lookup_cons, hx] at h ⊢
        exact ih h
    · rw [if_neg hb]
      cases hx : x == n with
      | true =>
        simp only [List.lookup_cons, hx] at h ⊢
        exact .inr h
      | false =>
        simp only [List.lookup_cons, hx] at h ⊢
        exact ih h
theorem relabel_mem {env : Env} : ∀ {names : List (Str × NameKind)} {x : Str}, (∀ y ∈ names, y.2 ≠ NameKind.cell) →
    ((names.map fun (n, k) => if (k == NameKind.free && env.scope.kind == .function && env.kindOf n == some .cell) then (n, NameKind.cell) else (n, k)).lookup x = some .cell ∨
      (names.map fun (n, k) => if (k == NameKind.free && env.scope.kind == .function && env.kindOf n == some .cell) then (n, NameKind.cell) else (n, k)).lookup x = some .free) → (x, NameKind.free) ∈ names
  | [], x, _, h => by simp at h
  | (n, k) :: r, x, hc, h => by
    have ih := @relabel_mem env r x fun y hy => hc y (List.mem_cons_of_mem _ hy)
    have hk0 : k ≠ NameKind.cell := hc (n, k) List.mem_cons_self
    rw [List.map_cons] at h
    dsimp only at h
    by_cases hb : (k == NameKind.free && env.scope.kind == .function && env.kindOf n == some .cell) = true
    · have hk : k = NameKind.free := by
        simp only [Bool.and_eq_true] at hb
        simpa using hb.1.1
      rw [if_pos hb] at h
      cases hx : x == n with
      | true =>
        have : x = n := by simpa using hx
        subst this
        rw [hk]
        exact List.mem_cons_self
      | false =>
        simp only [List.lookup_cons, hx] at h
        exact List.mem_cons_of_mem _ (ih h)
    · rw [if_neg hb] at h
      cases hx : x == n with
      | true =>
        have : x = n := by simpa using hx
        subst this
        simp only [List.lookup_cons, beq_self_eq_true, Option.some.injEq] at h
        rcases h with h | h
        · exact absurd h hk0
        · rw [h]; exact List.mem_cons_self
      | false =>
        simp only [List.lookup_cons, hx] at h
        exact List.mem_cons_of_mem _ (ih h)

/-- the block's context: N its names (its own first, then those it closes over), s H the state behind the making of the new list -/
def cxComp (X : Cx) (sc : Scope) (N : List Str) (cl : List (Str × Addr)) (fp : List Addr) (s : Shared) (H : Hp) : Cx where
  prog := X.prog
  w := X.w
  K := X.K
  mg := X.mg
  base := X.base
  A := X.A
  N := N
  s₀ := s
  H₀ := H
  env := compEnvC sc cl s.heap.objs.size X.env
  outer := X.stack
  stack := X.stack
  ex := fp
  fn := fun _ => false
  calm := X.calm
  pn := []
  xe := NoX

/-- the block's names: own ones, and where the others stand outside -/
structure CompScope (X : Cx) (sc : Scope) (own : List Str) (cap : List Nat) (N : List Str) (cl : List (Str × Addr)) : Prop where
  kind : sc.kind = .function
  nocell : ∀ y ∈ sc.names, y.2 ≠ NameKind.cell
  loc : ∀ y ∈ sc.names, y.2 = .local → sc.names.lookup y.1 = some .local
  clos : closL X.env sc.names [] = some cl
  names : N = own ++ cap.map fun i => X.N.getD i Str.empty
  capOk : ∀ i ∈ cap, i < X.N.length ∧ (X.env.kindOf (X.N.getD i Str.empty) = some .cell ∨ X.env.kindOf (X.N.getD i Str.empty) = some .free) ∧ sc.names.lookup (X.N.getD i Str.empty) = some .free

/-- the block's names at its entry -/
def compSt (own : List Str) (cap : List Nat) (σ : St) : St := List.replicate own.length none ++ cap.map fun i => σ.getD i none

section
variable {X : Cx} {pins : List (Addr × Obj)} {σ : St} {H : Hp} {s : Shared} {sc : Scope} {own N : List Str} {cap : List Nat} {cl : List (Str × Addr)} {fp : List Addr} {tg : Expr} {J : It} {it : Addr} {tn : Nat → Heap → Prop}


theorem comp_inv {h4 : Heap} {t4 : Nat} (CS : CompScope X sc own cap N cl) (I : Inv X pins σ H s) (T : Turn X.prog X.w X.K tg J fp it tn) (st : tn 0 s.heap) (hf : ∀ b ∈ fp, FpOk X pins H b)
    (D : Addr) (hD : D = s.heap.objs.size) (s3 : Shared) (h3 : s3 = { s with heap := s.heap.push { cls := .type "list", dict := none, data := .seq ([] : List Value).toArray } })
    (hns : h4.Ns s3.heap.objs.size (fun _ => none)) (hk : ∀ b o, s3.heap.get? b = some o → h4.get? b = some o) :
    Inv (cxComp X sc N cl fp s3 (upd H D (.lst []))) [] (compSt own cap σ) (upd H D (.lst [])) { s3 with heap := h4, toks := t4 } := by
  subst hD
  have hDn : H s.heap.objs.size = none := I.fresh
  have k3 : ∀ b o, s.heap.get? b = some o → s3.heap.get? b = some o := fun b o e => by rw [h3]; exact Heap.get?_push_of_some _ e
  have z3 : s3.heap.objs.size = s.heap.objs.size + 1 := by rw [h3]; exact Heap.size_push ..
  have I3 : Inv X pins σ (upd H s.heap.objs.size (.lst [])) s3 := by
    rw [h3]
    exact I.laid (t' := s.toks) (fun b o e => Heap.get?_push_of_some _ e) (Nat.le_refl _) ⟨Nat.zero_le _, [], 0, .nil, Heap.get?_push_size _ rfl⟩
  have fplt : ∀ b ∈ fp, b < s.heap.objs.size := fun b hb => by
    obtain ⟨o, e, _⟩ := T.obj 0 _ st b hb
    exact Heap.lt_size e
  have hCfresh : ∀ b, b < s.heap.objs.size → b ≠ s3.heap.objs.size := fun b hb => by rw [z3]; exact Nat.ne_of_lt (Nat.lt_succ_of_lt hb)
  have cellEnv : ∀ x c, cl.lookup x = some c → X.env.cells.lookup x = some c := clos_sub CS.clos fun x c h => by simp at h
  have ok : (cxComp X sc N cl fp s3 (upd H s.heap.objs.size (.lst []))).Ok := by
    refine ⟨I.ok.mod, CS.kind, I.ok.glob, I.ok.blt, Nat.le_refl _, fun x y c hx hy => I.ok.inj x y c (cellEnv x c hx) (cellEnv y c hy), fun x hx => ?_, fun x c hx _ => absurd (show false = true from hx) Bool.false_ne_true, I.ok.hd, I.ok.frames, .inl rfl, fun b hb => ⟨?_, fun x c hx => ?_⟩, fun b o e => ?_, ?_, fun b o e hb => ?_, fun b hb hs => ?_, ?_, ?_⟩
    · exact clos_has CS.clos x (.inl (relabel_mem CS.nocell hx))
    · exact hCfresh b (fplt b hb)
    · exact (hf b hb).2.2.2.2.1 x c (cellEnv x c hx)
    · exact I3.bs b o e
    · exact Nat.le_trans I.ok.bsz (Nat.le_trans I.sz (by show s.heap.objs.size ≤ s3.heap.objs.size; rw [z3]; exact Nat.le_succ _))
    · rcases (hf b hb).2.2.2.1 with z | z
      · exact I.ok.noex b o e z
      · exact absurd (Nat.lt_of_lt_of_le (Heap.lt_size (I.ok.bs b o e).1) z) (Nat.lt_irrefl _)
    · rcases List.mem_cons.mp (I.stkSub b hs) with z | z
      · exact (hf b hb).2.1 z
      · exact (hf b hb).2.2.1 z
    · exact I3.stack
    · exact I3.stkFree
  have frC : ∀ b, s.heap.objs.size < b → (upd H s.heap.objs.size (.lst [])) b = none := fun b hb => by
    rw [upd_ne (Nat.ne_of_gt hb)]
    exact I.hok.fresh (Nat.le_of_lt hb)
  refine ⟨ok, ?_, I3.bare, Un.kept hk, ⟨_, hns, fun i x v e1 e2 e3 => ?_⟩, fun x c hx => ?_, ?_, fun x c hx => ?_, fun p hp => absurd (show p ∈ ([] : List (Addr × Obj)) from hp) (by simp), I3.hok.kept hk, ?_⟩
  · rfl
  · have e2' : (compSt own cap σ)[i]? = some (some v) := e2
    have e1' : N[i]? = some x := e1
    unfold compSt at e2'
    by_cases hi : i < own.length
    · rw [List.getElem?_append_left (by simpa using hi), List.getElem?_replicate] at e2'
      split at e2' <;> cases e2'
    · rw [List.getElem?_append_right (by simpa using Nat.le_of_not_lt hi), List.length_replicate, List.getElem?_map] at e2'
      rw [CS.names, List.getElem?_append_right (Nat.le_of_not_lt hi), List.getElem?_map] at e1'
      cases ec : cap[i - own.length]? with
      | none => rw [ec] at e1'; cases e1'
      | some j =>
        rw [ec] at e1' e2'
        have ex : X.N.getD j Str.empty = x := by simpa using e1'
        have ev : σ.getD j none = some v := by simpa using e2'
        obtain ⟨hj, hkind, hmem⟩ := CS.capOk j (List.mem_of_getElem? ec)
        rw [ex] at hkind hmem
        obtain ⟨m, hn, hl⟩ := I.loc
        have hxj : X.N[j]? = some x := by
          rw [List.getElem?_eq_getElem hj]
          rw [← ex, List.getD_eq_getElem?_getD, List.getElem?_eq_getElem hj]; rfl
        have hvj : σ[j]? = some (some v) := by
          have : j < σ.length := by rw [I.len]; exact hj
          rw [List.getD_eq_getElem?_getD, List.getElem?_eq_getElem this] at ev
          rw [List.getElem?_eq_getElem this]
          exact congrArg some ev
        obtain ⟨u, r, l⟩ := hl j x v hxj hvj (by
          rcases hkind with z | z
          · exact .inr (.inl z)
          · exact .inr (.inr z))
        refine ⟨u, r, ?_⟩
        rcases l with ⟨k, _⟩ | ⟨k, c, e, z⟩
        · rcases hkind with z | z <;> (rw [z] at k; cases k)
        · obtain ⟨c', ec'⟩ := clos_has CS.clos x (.inl (PySem.mem_of_lookup hmem))
          have : c' = c := by
            have := cellEnv x c' ec'
            rw [e] at this
            exact (Option.some.inj this).symm
          subst this
          refine .inr ⟨?_, c', ec', ?_⟩
          · exact relabel_free hmem
          · obtain ⟨o, ho, hd⟩ := z
            exact ⟨o, hk _ _ (k3 _ _ ho), hd⟩
  · obtain ⟨v, o, ho, hd⟩ := I.cell x c (cellEnv x c hx)
    exact ⟨v, o, hk _ _ (k3 _ _ ho), hd⟩
  · exact frC _ (by show s.heap.objs.size < s3.heap.objs.size; rw [z3]; exact Nat.lt_succ_self _)
  · obtain ⟨v, o, ho, hd⟩ := I.cell x c (cellEnv x c hx)
    rw [upd_ne (Nat.ne_of_lt (Heap.lt_size ho))]
    exact I.freeC x c (cellEnv x c hx)
  · show (compSt own cap σ).length = N.length
    unfold compSt
    rw [CS.names]
    simp

/-- behind a turn of records of ours -/
theorem Inv.turnedL {h' : Heap} {t' : Nat} {ch : List Addr} (I : Inv X pins σ H s) (k : ∀ b o, b ∉ ch → s.heap.get? b = some o → h'.get? b = some o) (hf : ∀ b ∈ ch, FpOk X pins H b) : Inv X pins σ H { s with heap := h', toks := t' } := by
  have nit : ∀ b u, H b = some u → b ∉ ch := fun b u e z => by rw [(hf b z).1] at e; cases e
  refine I.step (g' := s.gens) (d' := s.drawn) (ch := ch) (fun b hb => ⟨(hf b hb).2.2.2.1, (hf b hb).2.1, (hf b hb).2.2.2.2.1, (hf b hb).2.2.2.2.2⟩) (fun b o _ _ hc e _ => k b o hc e) (fun b o _ _ hc e _ => ⟨o.slots, k b o hc e⟩) (fun _ _ _ _ n => n)
    (fun b o hc e => ⟨o, k b o hc e⟩) (fun _ _ e => e) (fun _ _ _ e => e) (fun b ps e => ⟨#[], by rw [e]; simp⟩) (fun m hm => ?_) (fun b u e => ?_) I.bare
  · obtain ⟨o, es, ep, ho, r⟩ := hm
    exact ⟨o, es, ep, k _ o (fun z => (hf _ z).2.1 rfl) ho, r⟩
  · refine (I.hok b u e).stay (fun c v hc q => k c v ?_ q) (fun _ q => q) fun _ _ q => q
    rcases hc with z | z
    · rw [z]; exact nit b u e
    · exact nit c _ z
/-- an object of ours is tracked from now on -/
theorem Inv.track {a : Addr} {o : HO} (I : Inv X pins σ H s) (f : FpOk X pins H a) (new : ObjOk X.prog X.w (upd H a o) s.heap a o) : Inv X pins σ (upd H a o) s := by
  obtain ⟨f0, f1, f2, f3, f4, f5⟩ := f
  have ne : ∀ b u, H b = some u → b ≠ a := fun b u e => ne_of_none e f0
  refine ⟨I.ok, I.os, I.bare, ⟨I.base.keep, I.base.slot, fun b ob e n hx => ?_, I.base.there, fun b xs e => ?_, fun b ob u e => ?_, fun b ps e => ?_⟩, I.loc, I.cell, ?_, fun x c e => ?_, fun p hp => ?_, fun b u e => ?_, I.len⟩
  · have nb : b ≠ a := fun z => by
      subst z
      rcases f3 with z | z
      · exact hx z
      · exact absurd (Nat.lt_of_lt_of_le (Heap.lt_size e) z) (Nat.lt_irrefl _)
    rw [upd_ne nb]
    exact I.base.free b ob e n hx
  · have q := I.base.tups b xs e
    rw [upd_ne (ne _ _ q)]
    exact q
  · have q := I.base.frzs b ob u e
    rw [upd_ne (ne _ _ q)]
    exact q
  · obtain ⟨more, q⟩ := I.base.tbls b ps e
    exact ⟨more, by rw [upd_ne (ne _ _ q)]; exact q⟩
  · rw [upd_ne (Ne.symm f1)]
    exact I.free
  · rw [upd_ne (f4 x c e)]
    exact I.freeC x c e
  · obtain ⟨e, n, r⟩ := I.pin p hp
    exact ⟨e, by rw [upd_ne (f5 p hp)]; exact n, r⟩
  · by_cases hb : b = a
    · subst hb
      rw [upd_same] at e
      cases e
      exact new
    · rw [upd_ne hb] at e
      exact (I.hok b u e).stay (fun _ _ _ q => q) (fun c q => by rw [upd_ne (ne _ _ q)]; exact q) fun c xs q => by rw [upd_ne (ne _ _ q)]; exact q
end

/-- the tests of a block -/
def PTs (X : Cx) (ifs : List Expr) (t : TT) : Prop :=
  ∀ (pins : List (Addr × Obj)) (s : Shared) (σ : St) (H : Hp) (Q : Bool → Hp → Prop), Inv X pins σ H s → t σ H Q → wpAny (model X.prog X.w) X.A (testsOf ifs X.env) (TP X pins σ Q) X.xe s
def tAll : TT := fun _ H Q => Q true H
theorem pts_nil {X : Cx} : PTs X [] tAll := fun _ _ _ H _ I h => wpAny_tests_nil ⟨H, I, h⟩
theorem pts_one {X : Cx} {c : Expr} {t : TT} (h : PT X c t) : PTs X [c] t := fun pins s σ H Q I q => wpAny_tests_one (h pins s σ H Q I q)

/-- the turns of a block: W its invariant (turn, measure, what was made so far, names, heap), D the new list -/
def CompTurns (J : It) (g : TG) (tc : TT) (te : TE) (σ : St) (H : Hp) (Q : VK) : Prop :=
  ∀ D, H D = none → ∃ W : Nat → Nat → List V → St → Hp → Prop, (∃ m, W 0 m [] σ (upd H D (.lst []))) ∧ ∀ i m ys σ' H', W i m ys σ' H' →
    (J.stop i H' ∧ Q (.ref D) H') ∨ (J.go i H' ∧ ∀ x H2, J.yld i H' x H2 → g x σ' H2 fun σ3 H3 => tc σ3 H3 fun b H4 => if b = true then te σ3 H4 fun y H5 =>
      H5 D = some (.lst ys) ∧ ys.length < sizeLine ∧ ∃ m', m' < m ∧ W (i + 1) m' (ys ++ [y]) σ3 (upd H5 D (.lst (ys ++ [y]))) else ∃ m', m' < m ∧ W (i + 1) m' ys σ3 H4)
def tComp (own : List Str) (cap : List Nat) (wi : TI) (g : TG) (tc : TT) (te : TE) : TE := fun σ H Q => wi σ H fun J H1 => CompTurns J g tc te (compSt own cap σ) H1 Q

section
variable {X : Cx} {pins : List (Addr × Obj)} {σ : St} {H : Hp} {s : Shared} {sc : Scope} {own N : List Str} {cap : List Nat} {cl : List (Str × Addr)} {fp : List Addr} {tg elt iter : Expr} {ifs : List Expr} {J : It} {it : Addr} {tn : Nat → Heap → Prop} {g : TG} {tc : TT} {te : TE} {wi : TI} {pos : Pos}

theorem comp_core {RR : Value → Addr → Result → Shared → Prop} {E : Value → Shared → Prop} {Q : VK} (hc : X.calm = true) (CS : CompScope X sc own cap N cl) (I : Inv X pins σ H s) (T : Turn X.prog X.w X.K tg J fp it tn) (st : tn 0 s.heap) (hf : ∀ b ∈ fp, FpOk X pins H b)
    (hg : ∀ f s3 H3, PG (cxComp X sc N cl f s3 H3) tg g) (ht : ∀ f s3 H3, PTs (cxComp X sc N cl f s3 H3) ifs tc) (he : ∀ f s3 H3, PE (cxComp X sc N cl f s3 H3) elt te)
    (h : CompTurns J g tc te (compSt own cap σ) H Q)
    (fin : ∀ D C H' s', Inv X pins σ H' s' → (∃ m, s'.heap.Ns C m) → FpOk X pins H' C → Q (.ref D) H' → RR (.ref D) C (.ok .next) s') :
    wpAny (model X.prog X.w) X.A (newList []) (fun acc s₃ => wpAny (model X.prog X.w) X.A (newFunctionEnv sc X.env.globals cl [] X.env.qual none .none (some X.env)) (fun cenv s₄ =>
      codeAny (model X.prog X.w) X.A (.compStart (.ListComp elt [⟨tg, iter, ifs, 0⟩] sc pos) 0 (.ref it) acc { cenv with scope := relabel sc X.env }) (RR acc cenv.locals) s₄) E s₃) E s := by
  refine wpAny_newObj_type (wpAny_newFunctionEnv CS.nocell (fun y hy => absurd hy (by simp)) (fun h4 hns hsb => ?_) CS.kind)
  have hD : H s.heap.objs.size = none := I.fresh
  obtain ⟨W, ⟨m0, w0⟩, turn⟩ := h s.heap.objs.size hD
  generalize hs3 : ({ s with heap := s.heap.push { cls := .type "list", dict := none, data := .seq ([] : List Value).toArray } } : Shared) = s3 at *
  have h3 := hs3.symm
  have e3 : s.heap.push { cls := .type "list", dict := none, data := .seq ([] : List Value).toArray } = s3.heap := by rw [h3]
  have z3 : s3.heap.objs.size = s.heap.objs.size + 1 := by rw [h3]; exact Heap.size_push ..
  have k3 : ∀ b o, s.heap.get? b = some o → s3.heap.get? b = some o := fun b o e => by rw [h3]; exact Heap.get?_push_of_some _ e
  have k4 : ∀ b o, s3.heap.get? b = some o → h4.get? b = some o := fun b o e => hsb.extBut b o (Nat.ne_of_lt (Heap.lt_size e)) (Heap.get?_push_of_some _ e)
  have fplt : ∀ b ∈ fp, b < s.heap.objs.size := fun b hb => by
    obtain ⟨o, e, _⟩ := T.obj 0 _ st b hb
    exact Heap.lt_size e
  have Ic : ∀ t4, Inv (cxComp X sc N cl fp s3 (upd H s.heap.objs.size (.lst []))) [] (compSt own cap σ) (upd H s.heap.objs.size (.lst [])) { s3 with heap := h4, toks := t4 } := fun t4 =>
    comp_inv (t4 := t4) CS I T st hf _ rfl s3 h3 (by simpa using hns) k4
  have st4 : tn 0 h4 := T.keep _ _ _ st fun b hb o e => k4 b o (k3 b o e)
  have fr4 : ∀ b ∈ fp, (upd H s.heap.objs.size (.lst [])) b = none := fun b hb => by
    rw [upd_ne (Nat.ne_of_lt (fplt b hb))]
    exact (hf b hb).1
  have stat : ∀ {H' : Hp}, (∀ b ∈ fp, H' b = none) → ∀ b ∈ fp, FpOk (cxComp X sc N cl fp s3 (upd H s.heap.objs.size (.lst []))) [] H' b := fun {H'} hn b hb => by
    refine ⟨hn b hb, ?_, fun hs => ?_, .inl hb, fun x c hx => ?_, fun p hp => absurd (show p ∈ ([] : List (Addr × Obj)) from hp) (by simp)⟩
    · show b ≠ s3.heap.objs.size
      rw [z3]
      exact Nat.ne_of_lt (Nat.lt_succ_of_lt (fplt b hb))
    · rcases List.mem_cons.mp (I.stkSub b hs) with z | z
      · exact (hf b hb).2.1 z
      · exact (hf b hb).2.2.1 z
    · exact (hf b hb).2.2.2.2.1 x c (clos_sub CS.clos (fun x c h => by simp at h) x c hx)
  have loop : ∀ s5 : Shared, (∃ t4, s5 = { s3 with heap := h4, toks := t4 }) → codeAny (model X.prog X.w) X.A (.compLoop (.ListComp elt [⟨tg, iter, ifs, 0⟩] sc pos) 0 (.ref it) (.ref s.heap.objs.size) (compEnvC sc cl s3.heap.objs.size X.env))
      (RR (.ref s.heap.objs.size) s3.heap.objs.size) s5 := by
    rintro s5 ⟨t4, rfl⟩
    refine comp_loop (fun n s' => ∃ i ys σ' H', Inv (cxComp X sc N cl fp s3 (upd H s.heap.objs.size (.lst []))) [] σ' H' s' ∧ tn i s'.heap ∧ (∀ b ∈ fp, H' b = none) ∧ W i n ys σ' H') ?_
      ⟨0, [], _, _, Ic t4, st4, fr4, w0⟩
    rintro n s' ⟨i, ys, σ', H', I', st', fr', w'⟩
    rcases turn i n ys σ' H' w' with ⟨stop, q⟩ | ⟨go, step⟩
    · refine thn (T.done (cxComp X sc N cl fp s3 (upd H s.heap.objs.size (.lst []))) rfl rfl rfl hc i [] s' σ' H' NoX I' (stat fr') st' stop) fun r s6 ⟨hr, I6⟩ => ?_
      subst hr
      have bs := I6.base
      have un : Un (frs X.stack) fp H H' s.heap s6.heap := by
        have neD : ∀ b o, s.heap.get? b = some o → b ≠ s.heap.objs.size := fun b o e => Nat.ne_of_lt (Heap.lt_size e)
        refine ⟨fun b o e n hb hx => bs.keep b o (k3 b o e) (by show upd H _ _ b = none; rw [upd_ne (neD b o e)]; exact n) hb hx, fun b o e n hb hx => bs.slot b o (k3 b o e) (by show upd H _ _ b = none; rw [upd_ne (neD b o e)]; exact n) hb hx,
          fun b o e n hx => bs.free b o (k3 b o e) (by show upd H _ _ b = none; rw [upd_ne (neD b o e)]; exact n) hx, fun b o e hx => bs.there b o (k3 b o e) hx,
          fun b xs e => bs.tups b xs (by show upd H _ _ b = _; rw [upd_ne (ne_of_none e hD)]; exact e), fun b o u e => bs.frzs b o u (by show upd H _ _ b = _; rw [upd_ne (ne_of_none e hD)]; exact e), fun b ps e => bs.tbls b ps (by show upd H _ _ b = _; rw [upd_ne (ne_of_none e hD)]; exact e)⟩
      have I7 : Inv X pins σ H' s6 := I.call' (ch := fp) (by rw [I6.os]; show s3.os = s.os; rw [h3]) un I6.hok I6.bare fun b hb => ⟨(hf b hb).2.2.2.1, (hf b hb).2.1, (hf b hb).2.2.2.2.1, (hf b hb).2.2.2.2.2⟩
      obtain ⟨mC, nC, _⟩ := I6.loc
      exact fin _ _ H' s6 I7 ⟨mC, nC⟩ (I.fpOk (by show s.heap.objs.size ≤ s3.heap.objs.size; rw [z3]; exact Nat.le_succ _) I6.free) q
    · refine thn (T.item (cxComp X sc N cl fp s3 (upd H s.heap.objs.size (.lst []))) rfl rfl rfl hc i [] s' σ' H' NoX I' (stat fr') st' go) fun r s6 ⟨u, hr, h6⟩ => ?_
      subst hr
      refine thn h6 fun _ s7 ⟨x, H7, I7, r7, y7, st7, fr7⟩ => ?_
      have I7' := I7.pinned (stat fr7) (T.obj _ _ st7)
      have back : ∀ {σ8 : St} {H8 : Hp} {s8 : Shared}, Inv (cxComp X sc N cl fp s3 (upd H s.heap.objs.size (.lst []))) ([] ++ pinsAt fp s7.heap) σ8 H8 s8 → tn (i + 1) s8.heap ∧ ∀ b ∈ fp, H8 b = none := fun {σ8 H8 s8} I8 => by
        refine ⟨T.keep _ _ _ st7 fun b hb o e => (I8.pin (b, o) (List.mem_append_right _ (List.mem_append_right _ (mem_pinsAt hb e)))).1, fun b hb => ?_⟩
        obtain ⟨o, e, d⟩ := T.obj _ _ st7 b hb
        exact (I8.pin (b, o) (List.mem_append_right _ (List.mem_append_right _ (mem_pinsAt hb e)))).2.1
      refine thn (hg _ _ _ _ s7 σ' H7 x u _ I7' r7 (step x H7 y7)) fun _ s8 ⟨σ8, H8, I8, q8⟩ => ?_
      refine thn (ht _ _ _ _ s8 σ8 H8 _ I8 q8) fun ok s9 ⟨H9, I9, q9⟩ => ?_
      cases ok with
      | false =>
        rw [if_neg Bool.false_ne_true] at q9 ⊢
        obtain ⟨m', hm, w9⟩ := q9
        exact ⟨m', hm, i + 1, ys, σ8, H9, I9.unpinned, (back I9).1, (back I9).2, w9⟩
      | true =>
        rw [if_pos rfl] at q9 ⊢
        refine thn (he _ _ _ _ s9 σ8 H9 _ I9 q9) fun xv s10 ⟨y, H10, I10, r10, hDl, hz, m', hm, w10⟩ => ?_
        refine thn (mt_append _ s10 σ8 H10 (.ref s.heap.objs.size) [y] (.ref s.heap.objs.size) [xv] (fun _ H'' => H'' = upd H10 s.heap.objs.size (.lst (ys ++ [y]))) I10 rfl (.cons r10 .nil) ⟨_, ys, y, rfl, rfl, hDl, hz, rfl⟩) fun _ s11 ⟨_, H11, I11, _, e11⟩ => ?_
        subst e11
        exact ⟨m', hm, i + 1, ys ++ [y], σ8, _, I11.unpinned, (back I11).1, (back I11).2, w10⟩
  exact codeAny_compStart_list (loop _ ⟨_, rfl⟩) (T.self _ 0 _ _ _ st4 (loop _ ⟨_, rfl⟩))

theorem pe_comp (hc : X.calm = true) (CS : CompScope X sc own cap N cl) (hi : PI X tg iter wi) (hg : ∀ f s3 H3, PG (cxComp X sc N cl f s3 H3) tg g) (ht : ∀ f s3 H3, PTs (cxComp X sc N cl f s3 H3) ifs tc) (he : ∀ f s3 H3, PE (cxComp X sc N cl f s3 H3) elt te)
    (hs : ∀ x, foldedSetIterable iter X.env x = pure x := by intro _; rfl) : PE X (.ListComp elt [⟨tg, iter, ifs, 0⟩] sc pos) (tComp own cap wi g tc te) := by
  intro pins s σ H Q I h
  rw [eval_ListComp]
  refine wpAny_comprehension_free (use := none) rfl hs (clos_eq CS.clos) CS.kind CS.loc (thn (hi pins s σ H _ I h) fun v s1 h1 => thn h1 fun itv s2 h2 => ?_)
  obtain ⟨it, fp, tn, J, H2, e, I2, T, st2, f2, q2⟩ := h2
  subst e
  refine comp_core (RR := fun acc C => compPost (model X.prog X.w) X.A X.xe none (EP X pins σ Q) acc C) (Q := Q) hc CS I2 T st2 f2 hg ht he q2 ?_
  intro D C H' s' I' ⟨m, hn⟩ fC q
  exact ⟨m, hn, fun h' sb => ⟨.ref D, H', I'.turned (t' := s'.toks) (fun b o hb e => (sb.2 b hb).trans e) fC.1 fC.2.1 fC.2.2.2.1 fC.2.2.2.2.1 fC.2.2.2.2.2, rfl, q⟩⟩

/-- name = [.. for ..] where the store comes ahead of the block's end -/
theorem ps_setComp {i : Nat} {x : Str} {px spos : Pos} (hN : X.N.Nodup) (hxi : X.N[i]? = some x) (hx : Loc X.env.scope x) (hc : X.calm = true) (CS : CompScope X sc own cap N cl) (hi : PI X tg iter wi) (hg : ∀ f s3 H3, PG (cxComp X sc N cl f s3 H3) tg g)
    (ht : ∀ f s3 H3, PTs (cxComp X sc N cl f s3 H3) ifs tc) (he : ∀ f s3 H3, PE (cxComp X sc N cl f s3 H3) elt te) (hsw : swapsWith (.ListComp elt [⟨tg, iter, ifs, 0⟩] sc pos) (some (.Name x px)) spos.line X.env = pure true := by rfl)
    (hs : ∀ x, foldedSetIterable iter X.env x = pure x := by intro _; rfl) (hf : X.fn x = true ∨ X.env.scope.names.lookup x = some .local := by first | exact .inl rfl | exact .inr rfl | assumption) :
    PS X (.Assign [.Name x px] (.ListComp elt [⟨tg, iter, ifs, 0⟩] sc pos) spos) (tAsg (tComp own cap wi g tc te) (gName i)) := by
  intro pins s σ H D I h
  rw [exec_Assign_Name_used _ _ _ _ hsw]
  refine wpAny_bind (wpAny_standAt (wpAny_bind (?_ : wpAny _ _ _ _ _ _)))
  show wpAny _ X.A (do let _ ← comprehension (.ListComp elt [⟨tg, iter, ifs, 0⟩] sc pos) sc X.env _ (newList []) false (eval iter X.env) (some (assign (.Name x px) X.env))) _ _ s
  refine wpAny_bind (wpAny_mono (wpAny_comprehension_free (use := some (assign (.Name x px) X.env)) (Q := fun _ s' => SP X pins D .next s') rfl hs (clos_eq CS.clos) CS.kind CS.loc
    (thn (hi pins s σ H _ I h) fun v s1 h1 => thn h1 fun itv s2 h2 => ?_)) (fun _ s' hq => wpAny_pure (wpAny_pure hq)) fun _ _ e => e)
  obtain ⟨it, fp, tn, J, H2, e, I2, T, st2, f2, q2⟩ := h2
  subst e
  refine comp_core (RR := fun acc C => compPost (model X.prog X.w) X.A X.xe (some (assign (.Name x px) X.env)) (fun _ s' => SP X pins D .next s') acc C) (Q := fun v H' => gName i v σ H' D.nx) hc CS I2 T st2 f2 hg ht he q2 ?_
  intro D' C H' s' I' ⟨m, hn⟩ fC q
  show wpAny _ _ (assign (.Name x px) X.env (.ref D')) _ _ s'
  refine wpAny_assign_Name (store_ok2 I' hN hxi hx (v := .ref D') rfl (fun s'' I'' ⟨a, sb, ha⟩ => ?_) hf)
  have neC : C ≠ a := by
    rcases ha with z | z
    · rw [z]; exact fC.2.1
    · exact fun y => fC.2.2.2.2.1 x a z y.symm
  exact ⟨m, hn.sameBut sb neC, fun h' sb' => ⟨_, H', I''.turned (t' := s''.toks) (fun b o hb e => (sb'.2 b hb).trans e) fC.1 fC.2.1 fC.2.2.2.1 fC.2.2.2.2.1 fC.2.2.2.2.2, q⟩⟩
end

/-! ### enumerate -/
def Ite (K : PySem.W.Frag) (a : Addr) : It :=
  ⟨fun i H => ∃ xs x, SqL K H a xs ∧ xs[i]? = some x, fun i H v H' => ∃ t x, v = .ref t ∧ H t = none ∧ H' = upd H t (.tup [.int i, x]) ∧ ∀ xs, SqL K H a xs → xs[i]? = some x, fun i H => ∃ xs, SqL K H a xs ∧ xs.length ≤ i⟩
theorem turn_enum {P : Program} {w : World} {K : PySem.W.Frag} {elts : List Expr} {k} {tp : Pos} (a e it : Addr) (hei : e ≠ it) : Turn P w K (.Tuple elts k tp) (Ite K a) [e, it] e (fun i h => (∃ old, IsEnum h e it (i : Nat) old) ∧ h.IsListIter it a i) where
  mem := by simp
  obj := fun i h st b hb => by
    obtain ⟨⟨old, he⟩, ⟨o, ho, c, d⟩⟩ := st
    rcases List.mem_cons.mp hb with z | z
    · subst z
      exact ⟨_, he, fun v z => by cases z⟩
    · have z' : b = it := by simpa using z
      subst z'
      exact ⟨o, ho, fun v z => by rw [d] at z; cases z⟩
  keep := fun i h h' st kp => ⟨let ⟨old, he⟩ := st.1; ⟨old, kp e (by simp) _ he⟩, st.2.at fun o q => kp it (by simp) o q⟩
  item := by
    intro X hP hw hK hc i pins s σ H E I hf st hg
    subst hP hw hK
    obtain ⟨⟨old, he⟩, hit⟩ := st
    obtain ⟨xs, x, hq, hx⟩ := hg
    obtain ⟨its, rv, p, hz⟩ := I.list hq
    obtain ⟨u, hu, ru⟩ := rv.get hx
    refine wpAny_pyNext_enum_item he hit p.isList (x := u) (by simpa using hu) hei fun h1 heo hit1 ht1 hz1 hk1 => ?_
    refine ⟨.ref s.heap.objs.size, rfl, wpAny_letOwnedTupleGo_enum heo fun h2 he2 hs2 => ?_⟩
    have elt : e < s.heap.objs.size := Heap.lt_size he
    have ilt : it < s.heap.objs.size := by obtain ⟨o, ho, _⟩ := id hit; exact Heap.lt_size ho
    have k2 : ∀ b o, b ∉ [e, it] → s.heap.get? b = some o → h2.get? b = some o := fun b o hb q => by
      have n1 : b ≠ e := fun z => hb (by simp [z])
      have n2 : b ≠ it := fun z => hb (by simp [z])
      exact (hs2.2 b n1).trans (hk1 b o n1 n2 q)
    have I2 : Inv X pins σ H { s with heap := h2, toks := s.toks + 1 } := I.turnedL k2 hf
    have ht2 : h2.get? s.heap.objs.size = some { cls := .type "tuple", data := .seq #[.int i s.toks, u] } := (hs2.2 _ (Nat.ne_of_gt elt)).trans ht1
    have fT : FpOk X pins H s.heap.objs.size := I.fpOk (Nat.le_refl _) I.fresh
    have I3 : Inv X pins σ (upd H s.heap.objs.size (.tup [.int i, x])) { s with heap := h2, toks := s.toks + 1 } :=
      I2.track fT ⟨by show 2 ≤ sizeLine; rw [sizeLine_eq]; decide, [.int i s.toks, u], .cons ⟨_, rfl⟩ (.cons ru .nil), ⟨_, ht2, rfl, _, rfl⟩⟩
    refine ⟨.ref s.heap.objs.size, _, I3, rfl, ⟨_, x, rfl, I.fresh, rfl, fun ys hy => by rw [I.list_inj hy hq]; exact hx⟩, ⟨⟨_, by simpa using he2⟩, hit1.at fun o q => (hs2.2 it hei.symm).trans q⟩, fun b hb => ?_⟩
    rcases List.mem_cons.mp hb with z | z
    · subst z
      rw [upd_ne (Nat.ne_of_lt elt)]
      exact (hf b hb).1
    · have z' : b = it := by simpa using z
      subst z'
      rw [upd_ne (Nat.ne_of_lt ilt)]
      exact (hf b hb).1
  done := by
    intro X hP hw hK hc i pins s σ H E I hf st hg
    subst hP hw hK
    obtain ⟨⟨old, he⟩, hit⟩ := st
    obtain ⟨xs, hq, hx⟩ := hg
    obtain ⟨its, rv, p, hz⟩ := I.list hq
    have hl := rv.length
    exact wpAny_pyNext_enum_end (I.ok.hd hc) he hit p.isList (by simp; omega) fun h' eb => ⟨rfl, I.turnedL (ch := [e, it]) (t' := s.toks) (fun b o hb q => eb b o (fun z => hb (by simp [z])) q) hf⟩
  self := fun _ _ _ _ _ st h => let ⟨⟨_, he⟩, _⟩ := st; wpAny_pyIter_enum he h
def iEnum (K : PySem.W.Frag) (ta : TA) : TI := fun σ H R => ta σ H fun vs H1 => ∃ a, vs = [.ref a] ∧ (∃ xs, SqL K H1 a xs) ∧ R (Ite K a) H1
theorem pi_enum {X : Cx} {a : Expr} {ta : TA} {p pos tp : Pos} {elts : List Expr} {k} (hg : Gl X "enumerate") (hm : X.mg "enumerate" = none) (ha : PA X [a] ta) (hs : starEach [a] X.env = [(false, eval a X.env)] := by rfl) :
    PI X (.Tuple elts k tp) (.Call (.Name "enumerate" p) [a] [] pos) (iEnum X.K ta) := by
  intro pins s σ H R I h
  refine Call_ (ld_blt I hg hm boot_enumerate (PyProof.Rows.callWith_type1 (thn (ha pos pins s σ H _ I h) fun us s1 ⟨vs, H1, I1, r1, q1⟩ => ?_) hs rfl))
  obtain ⟨l, e, ⟨xs, hq⟩, q⟩ := q1
  subst e
  obtain ⟨u, rfl, rx⟩ := vals1 r1
  cases rx
  obtain ⟨its, rv, pl, hz⟩ := I1.list hq
  refine call_enumerate_list pl.isList fun h' he hit hsz hk => wpAny_pyIter_enum he ?_
  have I2 : Inv X pins σ H1 { s1 with heap := h' } := I1.kept (t' := s1.toks) hk
  refine ⟨_, [s1.heap.objs.size + 1, s1.heap.objs.size], _, _, H1, rfl, I2, turn_enum l _ _ (Nat.succ_ne_self _), ⟨⟨_, he⟩, hit⟩, fun b hb => ?_, q⟩
  rcases List.mem_cons.mp hb with z | z
  · subst z
    exact I1.fpOk (Nat.le_succ _) (I1.hok.fresh (Nat.le_succ _))
  · have z' : b = s1.heap.objs.size := by simpa using z
    subst z'
    exact I1.fpOk (Nat.le_refl _) I1.fresh
end L2

set_option Elab.async false
set_option linter.all false
set_option maxRecDepth 100000
set_option maxHeartbeats 4000000
/-! ### data in the heap -/
namespace L2
open PySem PySem.Spec PyProof.Rows

mutual
inductive Rep (K : PySem.W.Frag) (H : Hp) : V → PyData → Prop
  | non : Rep K H .non .none
  | bl (b : Bool) : Rep K H (.bl b) (.bool b)
  | int (i : Int) : Rep K H (.int i) (.int i)
  | str (x : Str) : Rep K H (.str x) (.str x)
  | lst {a : Addr} {xs : List V} {ds : List PyData} : SqL K H a xs → Reps K H xs ds → Rep K H (.ref a) (.list ds)
  | tup {a : Addr} {xs : List V} {ds : List PyData} : SqT K H a xs → Reps K H xs ds → Rep K H (.ref a) (.tuple ds)
inductive Reps (K : PySem.W.Frag) (H : Hp) : List V → List PyData → Prop
  | nil : Reps K H [] []
  | cons {x : V} {d : PyData} {xs : List V} {ds : List PyData} : Rep K H x d → Reps K H xs ds → Reps K H (x :: xs) (d :: ds)
end
theorem Same.seqT {K : PySem.W.Frag} {H H' : Hp} {a : Addr} {xs : List V} (e : Same H H') (h : SqT K H a xs) : SqT K H' a xs := by
  rcases h with (h | ⟨o, h⟩) | h
  · exact .inl (.inl (e _ _ h))
  · exact .inl (.inr ⟨o, e _ _ h⟩)
  · exact .inr h
mutual
theorem Rep.mono {K : PySem.W.Frag} {H H' : Hp} (s : Same H H') : ∀ (d : PyData) {v : V}, Rep K H v d → Rep K H' v d
  | .none, _, r => by cases r; exact .non
  | .bool b, _, r => by cases r; exact .bl b
  | .int i, _, r => by cases r; exact .int i
  | .str x, _, r => by cases r; exact .str x
  | .list ds, _, r => by cases r with | lst h t => exact .lst (s.seq h) (Reps.mono s ds t)
  | .tuple ds, _, r => by cases r with | tup h t => exact .tup (s.seqT h) (Reps.mono s ds t)
  | .dict _, _, r => by cases r
theorem Reps.mono {K : PySem.W.Frag} {H H' : Hp} (s : Same H H') : ∀ (ds : List PyData) {xs : List V}, Reps K H xs ds → Reps K H' xs ds
  | [], _, r => by cases r; exact .nil
  | d :: ds, _, r => by cases r with | cons a t => exact .cons (Rep.mono s d a) (Reps.mono s ds t)
end
section
variable {K : PySem.W.Frag} {H : Hp}
theorem Reps.length : ∀ {xs : List V} {ds : List PyData}, Reps K H xs ds → xs.length = ds.length
  | [], _, r => by cases r; rfl
  | x :: xs, _, r => by cases r with | cons a t => simp [Reps.length t]
theorem Reps.get : ∀ {xs : List V} {ds : List PyData} {i : Nat} {d : PyData}, Reps K H xs ds → ds[i]? = some d → ∃ x, xs[i]? = some x ∧ Rep K H x d
  | [], _, _, _, r, e => by cases r; simp at e
  | x :: xs, _, i, d, r, e => by
    cases r with
    | cons a t =>
      cases i with
      | zero => simp at e; subst e; exact ⟨x, rfl, a⟩
      | succ i => simpa using Reps.get (i := i) t (by simpa using e)
theorem Reps.at {xs : List V} {ds : List PyData} {i : Nat} {d : PyData} {x : V} (r : Reps K H xs ds) (e : ds[i]? = some d) (h : xs[i]? = some x) : Rep K H x d := by
  obtain ⟨y, h1, h2⟩ := r.get e
  rw [h] at h1
  cases h1
  exact h2
theorem Reps.append : ∀ {xs ys : List V} {ds es : List PyData}, Reps K H xs ds → Reps K H ys es → Reps K H (xs ++ ys) (ds ++ es)
  | [], _, _, _, r, s => by cases r; exact s
  | x :: xs, _, _, _, r, s => by cases r with | cons a t => exact .cons a (Reps.append t s)
theorem Reps.take : ∀ {xs : List V} {ds : List PyData} (n : Nat), Reps K H xs ds → Reps K H (xs.take n) (ds.take n)
  | _, _, 0, _ => by simpa using Reps.nil
  | [], _, _ + 1, r => by cases r; exact .nil
  | x :: xs, _, n + 1, r => by cases r with | cons a t => exact .cons a (Reps.take n t)
theorem Reps.drop : ∀ {xs : List V} {ds : List PyData} (n : Nat), Reps K H xs ds → Reps K H (xs.drop n) (ds.drop n)
  | _, _, 0, r => r
  | [], _, _ + 1, r => by cases r; exact .nil
  | x :: xs, _, n + 1, r => by cases r with | cons a t => exact Reps.drop n t
end

mutual
theorem reads_of {X : Cx} {pins : List (Addr × Obj)} {σ : St} {H : Hp} {s : Shared} (I : Inv X pins σ H s) : ∀ (d : PyData) {v : V} {u : Value}, Rep X.K H v d → RelV v u → ∃ as, Reads s.heap u d as
  | .none, _, _, r, q => by cases r; cases q; exact ⟨_, .none⟩
  | .bool b, _, _, r, q => by cases r; cases q; exact ⟨_, .bool b⟩
  | .int i, _, _, r, q => by cases r; obtain ⟨t, rfl⟩ := q; exact ⟨_, .int i t⟩
  | .str x, _, _, r, q => by cases r; obtain ⟨t, rfl⟩ := q; exact ⟨_, .str x t⟩
  | .list ds, _, _, r, q => by
    cases r with
    | lst h t =>
      cases q
      obtain ⟨its, rv, ⟨o, n, e, c, _, dt⟩, _⟩ := I.list h
      obtain ⟨as, ra⟩ := readsAll_of I ds t rv
      exact ⟨_, .list e c dt (by simpa using ra)⟩
  | .tuple ds, _, _, r, q => by
    cases r with
    | tup h t =>
      cases q
      obtain ⟨its, rv, ⟨o, e, c, n, dt⟩, _⟩ := I.tuple h
      obtain ⟨as, ra⟩ := readsAll_of I ds t rv
      exact ⟨_, .tuple e c dt (by simpa using ra)⟩
  | .dict _, _, _, r, _ => by cases r
theorem readsAll_of {X : Cx} {pins : List (Addr × Obj)} {σ : St} {H : Hp} {s : Shared} (I : Inv X pins σ H s) : ∀ (ds : List PyData) {xs : List V} {us : List Value}, Reps X.K H xs ds → Vals xs us → ∃ as, ReadsAll s.heap us ds as
  | [], _, _, r, q => by cases r; cases q; exact ⟨_, .nil⟩
  | d :: ds, _, _, r, q => by
    cases r with
    | cons a t =>
      cases q with
      | cons b w =>
        obtain ⟨as, h1⟩ := reads_of I d a b
        obtain ⟨bs, h2⟩ := readsAll_of I ds t w
        exact ⟨_, .cons h1 h2⟩
end

/-- data that may be compared -/
def Lay (n : Nat) (d : PyData) : Prop := d.canLay0 = true ∧ d.depth ≤ n

/-! ### a frame's names as data -/
inductive Slot where
  | un
  | val (d : PyData)
  | own (ds : List PyData)
  | ref (a : Addr)

/-- from H0 within H to H0' within H': all is kept, and what is new in H0' was nowhere in H -/
structure Grow (H0 H H0' H' : Hp) : Prop where
  big : Same H H'
  sml : Same H0 H0'
  sub : Same H0' H'
  new : ∀ a, H0' a ≠ none → H0 a ≠ none ∨ H a = none
theorem Grow.refl {H0 H : Hp} (s : Same H0 H) : Grow H0 H H0 H := ⟨Same.refl _, Same.refl _, s, fun _ h => .inl h⟩
theorem Grow.trans {A B C D E F : Hp} (x : Grow A B C D) (y : Grow C D E F) : Grow A B E F :=
  ⟨x.big.trans y.big, x.sml.trans y.sml, y.sub, fun a h => (y.new a h).elim (x.new a) fun z => .inr (x.big.free z)⟩
/-- a new object in both -/
theorem Grow.laid {H0 H : Hp} (s : Same H0 H) {p : Addr} {o : HO} (h : H p = none) : Grow H0 H (upd H0 p o) (upd H p o) := by
  have h0 : H0 p = none := s.free h
  refine ⟨fun b u e => ?_, fun b u e => ?_, fun b u e => ?_, fun b e => ?_⟩
  · rw [upd_ne (ne_of_none e h)]; exact e
  · rw [upd_ne (ne_of_none e h0)]; exact e
  · by_cases hb : b = p
    · subst hb; rw [upd_same] at e ⊢; exact e
    · rw [upd_ne hb] at e ⊢; exact s b u e
  · by_cases hb : b = p
    · subst hb; exact .inr h
    · rw [upd_ne hb] at e; exact .inl e
/-- a new object that is nobody's yet -/
theorem Grow.loose {H0 H : Hp} (s : Same H0 H) {p : Addr} {o : HO} (h : H p = none) : Grow H0 H H0 (upd H p o) :=
  ⟨fun b u e => by rw [upd_ne (ne_of_none e h)]; exact e, Same.refl _, fun b u e => by rw [upd_ne (ne_of_none (s b u e) h)]; exact s b u e, fun _ e => .inl e⟩

def SlotOk (K : PySem.W.Frag) (B H0 H : Hp) : Slot → Option (Option V) → Prop
  | .un, _ => True
  | .val d, o => ∃ v, o = some (some v) ∧ Rep K H0 v d
  | .own ds, o => ∃ p xs, o = some (some (.ref p)) ∧ H p = some (.lst xs) ∧ H0 p = none ∧ B p = none ∧ Reps K H0 xs ds
  | .ref a, o => o = some (some (.ref a))
/-- B0 within B: the heap at the def's entry -/
structure FrD (K : PySem.W.Frag) (B0 B H0 H : Hp) (σ : St) (δ : List Slot) : Prop where
  ent : Grow B0 B H0 H
  len : σ.length = δ.length
  slot : ∀ (i : Nat) sl, δ[i]? = some sl → SlotOk K B H0 H sl σ[i]?
  apart : ∀ (i j : Nat) ds es p, i ≠ j → δ[i]? = some (.own ds) → δ[j]? = some (.own es) → σ[i]? = some (some (.ref p)) → σ[j]? ≠ some (some (.ref p))
section
variable {K : PySem.W.Frag} {B0 B H0 H H0' H' : Hp} {σ : St} {δ : List Slot}
theorem FrD.sub (f : FrD K B0 B H0 H σ δ) : Same H0 H := f.ent.sub
theorem FrD.grow (f : FrD K B0 B H0 H σ δ) (g : Grow H0 H H0' H') : FrD K B0 B H0' H' σ δ := by
  refine ⟨f.ent.trans g, f.len, fun i sl e => ?_, f.apart⟩
  have q := f.slot i sl e
  cases sl with
  | un => trivial
  | ref a => exact q
  | val d => obtain ⟨v, h1, h2⟩ := q; exact ⟨v, h1, h2.mono g.sml⟩
  | own ds =>
    obtain ⟨p, xs, h1, h2, h3, h4, h5⟩ := q
    refine ⟨p, xs, h1, g.big _ _ h2, ?_, h4, h5.mono g.sml⟩
    cases e2 : H0' p with
    | none => rfl
    | some o =>
      rcases g.new p (by rw [e2]; simp) with z | z
      · exact absurd h3 z
      · rw [h2] at z; cases z
theorem FrD.val (f : FrD K B0 B H0 H σ δ) {i : Nat} {d : PyData} (h : δ[i]? = some (.val d)) : ∃ v, σ[i]? = some (some v) ∧ Rep K H0 v d := f.slot i _ h
theorem FrD.set (f : FrD K B0 B H0 H σ δ) {i : Nat} {d : PyData} {v : V} (r : Rep K H0 v d) : FrD K B0 B H0 H (σ.set i (some v)) (δ.set i (.val d)) := by
  refine ⟨f.ent, by simp [f.len], fun j sl e => ?_, fun j k ds es p hjk e1 e2 e3 => ?_⟩
  · by_cases hj : j = i
    · subst hj
      have hl : j < δ.length := by
        have := (List.getElem?_eq_some_iff.mp e).1
        simpa using this
      rw [List.getElem?_set_self hl] at e
      cases e
      rw [List.getElem?_set_self (by rw [f.len]; exact hl)]
      exact ⟨v, rfl, r⟩
    · rw [List.getElem?_set_ne (Ne.symm hj)] at e
      rw [List.getElem?_set_ne (Ne.symm hj)]
      exact f.slot j sl e
  · have nj : j ≠ i := fun z => by
      subst z
      have hl : j < δ.length := by simpa using (List.getElem?_eq_some_iff.mp e1).1
      rw [List.getElem?_set_self hl] at e1; cases e1
    have nk : k ≠ i := fun z => by
      subst z
      have hl : k < δ.length := by simpa using (List.getElem?_eq_some_iff.mp e2).1
      rw [List.getElem?_set_self hl] at e2; cases e2
    rw [List.getElem?_set_ne (Ne.symm nj)] at e1 e3
    rw [List.getElem?_set_ne (Ne.symm nk)] at e2 ⊢
    exact f.apart j k ds es p hjk e1 e2 e3
/-- a new list of one's own at a name -/
theorem FrD.setOwn (f : FrD K B0 B H0 H σ δ) {i : Nat} {ds : List PyData} {p : Addr} {xs : List V} (h1 : H p = some (.lst xs)) (h2 : H0 p = none) (h3 : B p = none) (r : Reps K H0 xs ds) (hn : ∀ (j : Nat) es, δ[j]? = some (.own es) → σ[j]? ≠ some (some (.ref p))) :
    FrD K B0 B H0 H (σ.set i (some (.ref p))) (δ.set i (.own ds)) := by
  refine ⟨f.ent, by simp [f.len], fun j sl e => ?_, fun j k ds' es q hjk e1 e2 e3 => ?_⟩
  · by_cases hj : j = i
    · subst hj
      have hl : j < δ.length := by simpa using (List.getElem?_eq_some_iff.mp e).1
      rw [List.getElem?_set_self hl] at e
      cases e
      rw [List.getElem?_set_self (by rw [f.len]; exact hl)]
      exact ⟨p, xs, rfl, h1, h2, h3, r⟩
    · rw [List.getElem?_set_ne (Ne.symm hj)] at e
      rw [List.getElem?_set_ne (Ne.symm hj)]
      exact f.slot j sl e
  · have hlj : j < δ.length := by simpa using (List.getElem?_eq_some_iff.mp e1).1
    have hlk : k < δ.length := by simpa using (List.getElem?_eq_some_iff.mp e2).1
    by_cases nj : j = i
    · subst nj
      rw [List.getElem?_set_self (by rw [f.len]; exact hlj)] at e3
      cases e3
      rw [List.getElem?_set_ne hjk] at e2 ⊢
      exact hn k es e2
    · rw [List.getElem?_set_ne (Ne.symm nj)] at e1 e3
      by_cases nk : k = i
      · subst nk
        rw [List.getElem?_set_self (by rw [f.len]; exact hlk)]
        intro z
        cases z
        exact hn j ds' e1 e3
      · rw [List.getElem?_set_ne (Ne.symm nk)] at e2 ⊢
        exact f.apart j k ds' es q hjk e1 e2 e3
/-- a list of one's own grows -/
theorem FrD.push (f : FrD K B0 B H0 H σ δ) {i : Nat} {ds : List PyData} {p : Addr} {xs : List V} {y : V} {d : PyData} (hi : δ[i]? = some (.own ds)) (hp : σ[i]? = some (some (.ref p))) (h1 : H p = some (.lst xs)) (ry : Rep K H0 y d) :
    FrD K B0 B H0 (upd H p (.lst (xs ++ [y]))) σ (δ.set i (.own (ds ++ [d]))) := by
  obtain ⟨p', xs', e1, e2, e3, e4, e5⟩ := f.slot i _ hi
  rw [hp] at e1
  cases e1
  rw [h1] at e2
  cases e2
  have hl : i < δ.length := (List.getElem?_eq_some_iff.mp hi).1
  refine ⟨⟨fun b u e => ?_, f.ent.sml, fun b u e => ?_, f.ent.new⟩, by simp [f.len], fun j sl e => ?_, fun j k ds' es q hjk a1 a2 a3 => ?_⟩
  · have : b ≠ p := ne_of_none e e4
    rw [upd_ne this]; exact f.ent.big b u e
  · have : b ≠ p := ne_of_none e e3
    rw [upd_ne this]; exact f.ent.sub b u e
  · by_cases hj : j = i
    · subst hj
      rw [List.getElem?_set_self hl] at e
      cases e
      exact ⟨p, xs ++ [y], hp, upd_same, e3, e4, e5.append (.cons ry .nil)⟩
    · rw [List.getElem?_set_ne (Ne.symm hj)] at e
      have q := f.slot j sl e
      cases sl with
      | un => trivial
      | ref a => exact q
      | val d => exact q
      | own ds' =>
        obtain ⟨p2, xs2, g1, g2, g3, g4, g5⟩ := q
        have : p2 ≠ p := fun z => by subst z; exact f.apart i j ds ds' p2 (Ne.symm hj) hi e hp g1
        exact ⟨p2, xs2, g1, by rw [upd_ne this]; exact g2, g3, g4, g5⟩
  · have c1 : ∃ ds1, δ[j]? = some (.own ds1) := by
      by_cases hj : j = i
      · subst hj; exact ⟨_, hi⟩
      · rw [List.getElem?_set_ne (Ne.symm hj)] at a1; exact ⟨_, a1⟩
    have c2 : ∃ ds1, δ[k]? = some (.own ds1) := by
      by_cases hk : k = i
      · subst hk; exact ⟨_, hi⟩
      · rw [List.getElem?_set_ne (Ne.symm hk)] at a2; exact ⟨_, a2⟩
    obtain ⟨d1, c1⟩ := c1
    obtain ⟨d2, c2⟩ := c2
    exact f.apart j k d1 d2 q hjk c1 c2 a3
/-- a list of one's own is given up: from now on it is data -/
theorem FrD.freeze (f : FrD K B0 B H0 H σ δ) {i : Nat} {ds : List PyData} {p : Addr} {xs : List V} (hi : δ[i]? = some (.own ds)) (hp : σ[i]? = some (some (.ref p))) (h1 : H p = some (.lst xs)) :
    FrD K B0 B (upd H0 p (.lst xs)) H σ (δ.set i (.val (.list ds))) ∧ Same H0 (upd H0 p (.lst xs)) := by
  obtain ⟨p', xs', e1, e2, e3, e4, e5⟩ := f.slot i _ hi
  rw [hp] at e1
  cases e1
  rw [h1] at e2
  cases e2
  have hl : i < δ.length := (List.getElem?_eq_some_iff.mp hi).1
  have sm : Same H0 (upd H0 p (.lst xs)) := fun b u e => by rw [upd_ne (ne_of_none e e3)]; exact e
  refine ⟨⟨⟨f.ent.big, f.ent.sml.trans sm, fun b u e => ?_, fun b e => ?_⟩, by simp [f.len], fun j sl e => ?_, fun j k ds' es q hjk a1 a2 a3 => ?_⟩, sm⟩
  · by_cases hb : b = p
    · subst hb; rw [upd_same] at e; rw [← e]; exact h1
    · rw [upd_ne hb] at e; exact f.ent.sub b u e
  · by_cases hb : b = p
    · subst hb; exact .inr e4
    · rw [upd_ne hb] at e; exact f.ent.new b e
  · by_cases hj : j = i
    · subst hj
      rw [List.getElem?_set_self hl] at e
      cases e
      exact ⟨.ref p, hp, .lst (SqL.of upd_same) (e5.mono sm)⟩
    · rw [List.getElem?_set_ne (Ne.symm hj)] at e
      have q := f.slot j sl e
      cases sl with
      | un => trivial
      | ref a => exact q
      | val d => obtain ⟨v, g1, g2⟩ := q; exact ⟨v, g1, g2.mono sm⟩
      | own ds' =>
        obtain ⟨p2, xs2, g1, g2, g3, g4, g5⟩ := q
        have : p2 ≠ p := fun z => by subst z; exact f.apart i j ds ds' p2 (Ne.symm hj) hi e hp g1
        exact ⟨p2, xs2, g1, g2, by rw [upd_ne this]; exact g3, g4, g5.mono sm⟩
  · have nj : j ≠ i := fun z => by subst z; rw [List.getElem?_set_self hl] at a1; cases a1
    have nk : k ≠ i := fun z => by subst z; rw [List.getElem?_set_self hl] at a2; cases a2
    rw [List.getElem?_set_ne (Ne.symm nj)] at a1
    rw [List.getElem?_set_ne (Ne.symm nk)] at a2
    exact f.apart j k ds' es q hjk a1 a2 a3
end

/-! ### what code does, in data -/
def cE (X : Cx) (e : Expr) : TE := fun σ H Q => ∀ pins s, Inv X pins σ H s → wpAny (model X.prog X.w) X.A (eval e X.env) (EP X pins σ Q) X.xe s
def cT (X : Cx) (e : Expr) : TT := fun σ H Q => ∀ pins s, Inv X pins σ H s → wpAny (model X.prog X.w) X.A (isTrue e X.env (eval e X.env)) (TP X pins σ Q) X.xe s
def cS (X : Cx) (st : Stmt) : TS := fun D σ H => ∀ pins s, Inv X pins σ H s → wpAny (model X.prog X.w) X.A (exec st X.env) (SP X pins D) X.xe s
def cSs (X : Cx) (st : List Stmt) : TS := fun D σ H => ∀ pins s, Inv X pins σ H s → wpAny (model X.prog X.w) X.A (execs st X.env) (SP X pins D) X.xe s
theorem pe_c {X : Cx} {e : Expr} : PE X e (cE X e) := fun pins s _ _ _ I h => h pins s I
theorem pt_c {X : Cx} {e : Expr} : PT X e (cT X e) := fun pins s _ _ _ I h => h pins s I
theorem ps_c {X : Cx} {e : Stmt} : PS X e (cS X e) := fun pins s _ _ _ I h => h pins s I
theorem pss_c {X : Cx} {e : List Stmt} : PSs X e (cSs X e) := fun pins s _ _ _ I h => h pins s I

/-- e is worth d -/
def VE (X : Cx) (e : Expr) (δ : List Slot) (d : PyData) : Prop := ∀ B0 B σ H0 H Q, FrD X.K B0 B H0 H σ δ → (∀ v H0' H', Grow H0 H H0' H' → Rep X.K H0' v d → Q v H') → cE X e σ H Q
/-- e is worth a new list, nobody else's -/
def VO (X : Cx) (e : Expr) (δ : List Slot) (ds : List PyData) : Prop := ∀ B0 B σ H0 H Q, FrD X.K B0 B H0 H σ δ →
  (∀ p xs H0' H', Grow H0 H H0' H' → H p = none → H0' p = none → H' p = some (.lst xs) → Reps X.K H0' xs ds → Q (.ref p) H') → cE X e σ H Q
def VT (X : Cx) (e : Expr) (δ : List Slot) (b : Bool) : Prop := ∀ B0 B σ H0 H Q, FrD X.K B0 B H0 H σ δ → (∀ H0' H', Grow H0 H H0' H' → Q b H') → cT X e σ H Q
def VA (X : Cx) (es : List Expr) (δ : List Slot) (ds : List PyData) : Prop := ∃ t, PA X es t ∧ ∀ B0 B σ H0 H Q, FrD X.K B0 B H0 H σ δ → (∀ vs H0' H', Grow H0 H H0' H' → Reps X.K H0' vs ds → Q vs H') → t σ H Q
theorem VE.of {X : Cx} {e : Expr} {δ : List Slot} {d : PyData} {t : TE} (h : PE X e t) (q : ∀ B0 B σ H0 H Q, FrD X.K B0 B H0 H σ δ → (∀ v H0' H', Grow H0 H H0' H' → Rep X.K H0' v d → Q v H') → t σ H Q) : VE X e δ d :=
  fun B0 B σ H0 H Q f k pins s I => h pins s σ H Q I (q B0 B σ H0 H Q f k)
theorem VO.of {X : Cx} {e : Expr} {δ : List Slot} {ds : List PyData} {t : TE} (h : PE X e t) (q : ∀ B0 B σ H0 H Q, FrD X.K B0 B H0 H σ δ →
    (∀ p xs H0' H', Grow H0 H H0' H' → H p = none → H0' p = none → H' p = some (.lst xs) → Reps X.K H0' xs ds → Q (.ref p) H') → t σ H Q) : VO X e δ ds :=
  fun B0 B σ H0 H Q f k pins s I => h pins s σ H Q I (q B0 B σ H0 H Q f k)
theorem VT.of {X : Cx} {e : Expr} {δ : List Slot} {b : Bool} {t : TT} (h : PT X e t) (q : ∀ B0 B σ H0 H Q, FrD X.K B0 B H0 H σ δ → (∀ H0' H', Grow H0 H H0' H' → Q b H') → t σ H Q) : VT X e δ b :=
  fun B0 B σ H0 H Q f k pins s I => h pins s σ H Q I (q B0 B σ H0 H Q f k)
/-- a new list is data, too -/
theorem VO.ve {X : Cx} {e : Expr} {δ : List Slot} {ds : List PyData} (h : VO X e δ ds) : VE X e δ (.list ds) := fun B0 B σ H0 H Q f k => h B0 B σ H0 H Q f fun p xs H0' H' g h1 h2 h3 r => by
  have sm : Same H0' (upd H0' p (.lst xs)) := fun b u e => by rw [upd_ne (ne_of_none e h2)]; exact e
  refine k (.ref p) (upd H0' p (.lst xs)) H' ⟨g.big, g.sml.trans sm, fun b u e => ?_, fun b e => ?_⟩ (.lst (SqL.of upd_same) (r.mono sm))
  · by_cases hb : b = p
    · subst hb; rw [upd_same] at e; rw [← e]; exact h3
    · rw [upd_ne hb] at e; exact g.sub b u e
  · by_cases hb : b = p
    · subst hb; exact .inr h1
    · rw [upd_ne hb] at e; exact g.new b e

/-- an operation on data -/
def OpD (K : PySem.W.Frag) (r : R2) (d1 d2 d : PyData) : Prop := ∀ x y H0 H Q, Same H0 H → Rep K H0 x d1 → Rep K H0 y d2 → (∀ v H0' H', Grow H0 H H0' H' → Rep K H0' v d → Q v H') → r x y H Q

section
variable {X : Cx} {a b c e : Expr} {δ : List Slot} {d d1 d2 d3 : PyData} {pos : Pos}
theorem ve_var (i : Nat) {x : Str} (h : δ[i]? = some (.val d)) (hN : X.N[i]? = some x := by rfl) (hv : Vis X.env.scope x := by first | exact Or.inl rfl | exact Or.inr (Or.inl rfl) | exact Or.inr (Or.inr rfl)) (hd : (x == ("__debug__" : Str)) = false := by decide)
    (hcd : (x == ("__classdict__" : Str)) = false := by decide) : VE X (.Name x pos) δ d :=
  .of (pe_var hN hv hd hcd) fun B0 B σ H0 H Q f k => let ⟨v, h1, h2⟩ := f.val h; ⟨v, h1, k v H0 H (.refl f.sub) h2⟩
theorem ve_int {i : Int} {j} : VE X (.Constant (.int i) j pos) δ (.int i) := .of pe_int fun _ _ _ _ _ _ f k => k _ _ _ (.refl f.sub) (.int i)
theorem ve_bl {i : Bool} {j} : VE X (.Constant (.bool i) j pos) δ (.bool i) := .of pe_bl fun _ _ _ _ _ _ f k => k _ _ _ (.refl f.sub) (.bl i)
theorem ve_non {j} : VE X (.Constant .none j pos) δ .none := .of pe_non fun _ _ _ _ _ _ f k => k _ _ _ (.refl f.sub) .non
theorem ve_str {i : Str} {j} : VE X (.Constant (.str i) j pos) δ (.str i) := .of pe_str fun _ _ _ _ _ _ f k => k _ _ _ (.refl f.sub) (.str i)

theorem two_d {r : R2} (hd : OpD X.K r d1 d2 d) (h1 : VE X a δ d1) (h2 : VE X b δ d2) : ∀ B0 B σ H0 H Q, FrD X.K B0 B H0 H σ δ → (∀ v H0' H', Grow H0 H H0' H' → Rep X.K H0' v d → Q v H') → tOp r (cE X a) (cE X b) σ H Q := fun B0 B σ H0 H Q f k =>
  h1 B0 B σ H0 H _ f fun v H1 H1' g1 r1 => h2 B0 B σ H1 H1' _ (f.grow g1) fun u H2 H2' g2 r2 => hd v u H2 H2' Q g2.sub (r1.mono g2.sml) r2 fun w H3 H3' g3 r3 => k w H3 H3' ((g1.trans g2).trans g3) r3
theorem ve_bin {op : Operator} {r : R2} (ho : OpR X (binaryOp op) r) (hd : OpD X.K r d1 d2 d) (h1 : VE X a δ d1) (h2 : VE X b δ d2) : VE X (.BinOp a op b pos) δ d := .of (pe_op ho pe_c pe_c) (two_d hd h1 h2)
theorem ve_cmp {op : CmpOp} {r : R2} (ho : OpR X (compareOp op) r) (hd : OpD X.K r d1 d2 d) (h1 : VE X a δ d1) (h2 : VE X b δ d2) (hm : behindInMarks op b = false) : VE X (.Compare a [op] [b] pos) δ d := .of (pe_cmpR ho pe_c pe_c hm) (two_d hd h1 h2)
theorem vt_cmp {op : CmpOp} {r : R2} {k : Bool} (ho : OpR X (compareOp op) r) (hd : OpD X.K r d1 d2 (.bool k)) (h1 : VE X a δ d1) (h2 : VE X b δ d2) (hm : behindInMarks op b = false) : VT X (.Compare a [op] [b] pos) δ k :=
  .of (pt_cmpR ho pe_c pe_c hm) fun B0 B σ H0 H Q f q => two_d hd h1 h2 B0 B σ H0 H _ f fun v H0' H' g r => by cases r; exact ⟨_, rfl, q H0' H' g⟩
theorem ve_ixR {r : R2} (ho : IxR X r) (hd : OpD X.K r d1 d2 d) (h1 : VE X a δ d1) (h2 : VE X b δ d2) (hs : PlainIx b := by intro _ _; rfl) : VE X (.Subscript a b pos) δ d := .of (pe_ix ho pe_c pe_c hs) (two_d hd h1 h2)
end
theorem odI0 {K : PySem.W.Frag} {g : Int → Int → Int} (i j : Int) : OpD K (rI0 fun i j => .int (g i j)) (.int i) (.int j) (.int (g i j)) := fun x y H0 H Q s r1 r2 k => by cases r1; cases r2; exact ⟨_, _, rfl, rfl, k _ _ _ (.refl s) (.int _)⟩
theorem odB0 {K : PySem.W.Frag} {g : Int → Int → Bool} (i j : Int) : OpD K (rI0 fun i j => .bl (g i j)) (.int i) (.int j) (.bool (g i j)) := fun x y H0 H Q s r1 r2 k => by cases r1; cases r2; exact ⟨_, _, rfl, rfl, k _ _ _ (.refl s) (.bl _)⟩
theorem odIC {K : PySem.W.Frag} {C : Int → Int → Prop} {g : Int → Int → Int} (i j : Int) (h : C i j) : OpD K (rI C fun i j => .int (g i j)) (.int i) (.int j) (.int (g i j)) := fun x y H0 H Q s r1 r2 k => by cases r1; cases r2; exact ⟨_, _, rfl, rfl, h, k _ _ _ (.refl s) (.int _)⟩

/-! ### == and its like on data -/
def rDat (K : PySem.W.Frag) (n : Nat) (g : PyData → PyData → Bool) : R2 := fun x y H Q => ∃ dx dy, Rep K H x dx ∧ Rep K H y dy ∧ Lay n dx ∧ Lay n dy ∧ Q (.bl (g dx dy)) H
theorem op_eqD {X : Cx} {n : Nat} (hu : X.A.units + n + 2 < cLine) : OpR X (compareOp .Eq) (rDat X.K n fun x y => PyData.eqv x y) := by
  intro pins s σ H x y v u Q I rx ry ⟨dx, dy, r1, r2, l1, l2, q⟩
  obtain ⟨as, ra⟩ := reads_of I dx r1 rx
  obtain ⟨bs, rb⟩ := reads_of I dy r2 ry
  have h1 := l1.2
  exact SeqAt.compareEq_reads ra rb l1.1 l2.1 (by omega) ⟨.bl _, H, I, rfl, q⟩
theorem op_neD {X : Cx} {n : Nat} (hu : X.A.units + n + 2 < cLine) : OpR X (compareOp .NotEq) (rDat X.K n fun x y => !PyData.eqv x y) := by
  intro pins s σ H x y v u Q I rx ry ⟨dx, dy, r1, r2, l1, l2, q⟩
  obtain ⟨as, ra⟩ := reads_of I dx r1 rx
  obtain ⟨bs, rb⟩ := reads_of I dy r2 ry
  have h1 := l1.2
  exact SeqAt.neOverData X.prog X.w X.A X.xe s v u dx dy as bs _ ra rb l1.1 l2.1 (by omega) ⟨.bl _, H, I, rfl, q⟩
/-- x in a list | tuple -/
def anyEq (d : PyData) : PyData → Bool
  | .list xs => xs.any fun y => PyData.eqv y d
  | .tuple xs => xs.any fun y => PyData.eqv y d
  | _ => false
def isSeq : PyData → Bool
  | .list _ => true
  | .tuple _ => true
  | _ => false
def rInD (K : PySem.W.Frag) (n : Nat) (neg : Bool) : R2 := fun x y H Q => ∃ dx dy, Rep K H x dx ∧ Rep K H y dy ∧ isSeq dy = true ∧ Lay n dx ∧ Lay n dy ∧ Q (.bl (if neg then !anyEq dx dy else anyEq dx dy)) H
theorem op_inD {X : Cx} {n : Nat} (hu : X.A.units + n + 2 < cLine) : OpR X (compareOp .In) (rInD X.K n false) := by
  intro pins s σ H x y v u Q I rx ry ⟨dx, dy, r1, r2, hs, l1, l2, q⟩
  obtain ⟨as, ra⟩ := reads_of I dx r1 rx
  obtain ⟨bs, rb⟩ := reads_of I dy r2 ry
  have h1 := l1.2
  cases dy with
  | list ys => exact SeqAt.in_list_reads rb ra l2.1 l1.1 (by omega) ⟨.bl _, H, I, rfl, q⟩
  | tuple ys => exact SeqAt.in_tuple_reads rb ra l2.1 l1.1 (by omega) ⟨.bl _, H, I, rfl, q⟩
  | _ => cases hs
theorem odDat {K : PySem.W.Frag} {n : Nat} {g : PyData → PyData → Bool} {d1 d2 : PyData} (l1 : Lay n d1) (l2 : Lay n d2) : OpD K (rDat K n g) d1 d2 (.bool (g d1 d2)) := fun x y H0 H Q s r1 r2 k => ⟨d1, d2, r1.mono s, r2.mono s, l1, l2, k _ _ _ (.refl s) (.bl _)⟩
theorem odIn {K : PySem.W.Frag} {n : Nat} {neg : Bool} {d1 d2 : PyData} (hs : isSeq d2 = true) (l1 : Lay n d1) (l2 : Lay n d2) : OpD K (rInD K n neg) d1 d2 (.bool (if neg then !anyEq d1 d2 else anyEq d1 d2)) := fun x y H0 H Q s r1 r2 k =>
  ⟨d1, d2, r1.mono s, r2.mono s, hs, l1, l2, k _ _ _ (.refl s) (.bl _)⟩
theorem odIsN {K : PySem.W.Frag} {d : PyData} : OpD K (fun x y H Q => y = .non ∧ Q (.bl (decide (x = .non))) H) d .none (.bool (match d with | .none => true | _ => false)) := fun x y H0 H Q s r1 r2 k => by
  cases r2
  refine ⟨rfl, k _ _ _ (.refl s) ?_⟩
  cases r1 <;> exact .bl _
theorem odNotN {K : PySem.W.Frag} {d : PyData} : OpD K (fun x y H Q => y = .non ∧ Q (.bl (!decide (x = .non))) H) d .none (.bool (match d with | .none => false | _ => true)) := fun x y H0 H Q s r1 r2 k => by
  cases r2
  refine ⟨rfl, k _ _ _ (.refl s) ?_⟩
  cases r1 <;> exact .bl _
/-- items -/
theorem odIx {K : PySem.W.Frag} {ds : List PyData} {i : Int} {d : PyData} (h : atI ds i = some d) : OpD K (rIx K) (.list ds) (.int i) d := fun x y H0 H Q s r1 r2 k => by
  cases r2
  cases r1 with
  | lst hq r =>
    rename_i p xs
    have hl := r.length
    unfold atI at h
    cases e : ixN ds.length i with
    | none => rw [e] at h; cases h
    | some j =>
      rw [e] at h
      obtain ⟨v, hv, rv⟩ := r.get (i := j) (d := d) h
      exact .inl ⟨p, xs, i, v, rfl, rfl, s.seq hq, by unfold atI; rw [hl, e]; exact hv, k v _ _ (.refl s) rv⟩
theorem odIxT {K : PySem.W.Frag} {ds : List PyData} {i : Int} {d : PyData} (h : atI ds i = some d) : OpD K (rIx K) (.tuple ds) (.int i) d := fun x y H0 H Q s r1 r2 k => by
  cases r2
  cases r1 with
  | tup hq r =>
    rename_i p xs
    have hl := r.length
    unfold atI at h
    cases e : ixN ds.length i with
    | none => rw [e] at h; cases h
    | some j =>
      rw [e] at h
      obtain ⟨v, hv, rv⟩ := r.get (i := j) (d := d) h
      exact .inr (.inl ⟨p, xs, i, v, rfl, rfl, s.seqT hq, by unfold atI; rw [hl, e]; exact hv, k v _ _ (.refl s) rv⟩)
end L2

set_option Elab.async false
set_option linter.all false
set_option maxRecDepth 100000
set_option maxHeartbeats 4000000
/-! ### expressions on data -/
namespace L2
open PySem PySem.Spec PyProof.Rows
def rCatS (K : PySem.W.Frag) : R2 := fun x y H Q => ∃ l b xs zs, x = .ref l ∧ y = .ref b ∧ SqL K H l xs ∧ SqL K H b zs ∧ xs.length + zs.length ≤ sizeLine ∧ ∀ p, H p = none → Q (.ref p) (upd H p (.lst (xs ++ zs)))
theorem op_catS {X : Cx} : OpR X (binaryOp .Add) (rCatS X.K) := by
  intro pins s σ H x y v u Q I rx ry h
  obtain ⟨l, b, xs, zs, rfl, rfl, hl, hb, hz, q⟩ := h
  cases rx
  cases ry
  obtain ⟨its, r1, ⟨⟨cls, dd, data, sl⟩, n, e1, c1, _, d1⟩, z1⟩ := I.list hl
  obtain ⟨its2, r2, ⟨⟨cls2, dd2, data2, sl2⟩, n2, e2, c2, _, d2⟩, z2⟩ := I.list hb
  simp only at c1 d1 c2 d2
  subst c1 d1 c2 d2
  have l1 := r1.length
  have l2 := r2.length
  refine concat_meets ⟨_, e1, rfl⟩ ⟨_, e2, rfl⟩ noFill_list_add seq_list_add PySem.F.slot_list_add PySem.F.entry_list_add (PySem.F.args_list_add_2 _ _) (list_addW l b its.toArray its2.toArray n n2 dd dd2 sl sl2 (by rw [List.size_toArray, List.size_toArray]; omega)) ⟨e1, e2, ?_⟩
  rw [show its.toArray ++ its2.toArray = (its ++ its2).toArray by simp]
  exact ⟨.ref _, _, I.lnew (t' := s.toks) (r1.append r2) (by rw [List.length_append]; omega), rfl, q _ I.fresh⟩
section
variable {X : Cx} {a b c e : Expr} {es : List Expr} {δ : List Slot} {d d1 d2 d3 : PyData} {ds : List PyData} {pos : Pos} {i j : Int} {k : Nat}
theorem ve_add (h1 : VE X a δ (.int i)) (h2 : VE X b δ (.int j)) : VE X (.BinOp a .Add b pos) δ (.int (i + j)) := ve_bin op_add (odI0 i j) h1 h2
theorem ve_sub (h1 : VE X a δ (.int i)) (h2 : VE X b δ (.int j)) : VE X (.BinOp a .Sub b pos) δ (.int (i - j)) := ve_bin op_sub (odI0 i j) h1 h2
theorem ve_mul (h1 : VE X a δ (.int i)) (h2 : VE X b δ (.int j)) (h : CMul i j) : VE X (.BinOp a .Mult b pos) δ (.int (i * j)) := ve_bin op_mul (odIC i j h) h1 h2
theorem ve_mod (h1 : VE X a δ (.int i)) (h2 : VE X b δ (.int j)) (h : 0 < j) : VE X (.BinOp a .Mod b pos) δ (.int (i % j)) := ve_bin op_mod (odIC i j h) h1 h2
theorem ve_div (h1 : VE X a δ (.int i)) (h2 : VE X b δ (.int j)) (h : CDiv i j) : VE X (.BinOp a .FloorDiv b pos) δ (.int (i / j)) := ve_bin op_fdiv (odIC i j h) h1 h2
theorem ve_gt (h1 : VE X a δ (.int i)) (h2 : VE X b δ (.int j)) : VE X (.Compare a [.Gt] [b] pos) δ (.bool (decide (j < i))) := ve_cmp op_gt (odB0 i j) h1 h2 (nomark _)
theorem vt_lt (h1 : VE X a δ (.int i)) (h2 : VE X b δ (.int j)) : VT X (.Compare a [.Lt] [b] pos) δ (decide (i < j)) := vt_cmp op_lt (odB0 i j) h1 h2 (nomark _)
theorem vt_gt (h1 : VE X a δ (.int i)) (h2 : VE X b δ (.int j)) : VT X (.Compare a [.Gt] [b] pos) δ (decide (j < i)) := vt_cmp op_gt (odB0 i j) h1 h2 (nomark _)
theorem vt_ge (h1 : VE X a δ (.int i)) (h2 : VE X b δ (.int j)) : VT X (.Compare a [.GtE] [b] pos) δ (decide (j ≤ i)) := vt_cmp op_ge (odB0 i j) h1 h2 (nomark _)
theorem hu20 (hr : Room k X.A) : X.A.units + 20 + 2 < cLine := by have := hr.un; omega
theorem vt_eq (hr : Room k X.A) (l1 : Lay 20 d1) (l2 : Lay 20 d2) (h1 : VE X a δ d1) (h2 : VE X b δ d2) : VT X (.Compare a [.Eq] [b] pos) δ (PyData.eqv d1 d2) := vt_cmp (op_eqD (hu20 hr)) (odDat l1 l2) h1 h2 (nomark _)
theorem vt_ne (hr : Room k X.A) (l1 : Lay 20 d1) (l2 : Lay 20 d2) (h1 : VE X a δ d1) (h2 : VE X b δ d2) : VT X (.Compare a [.NotEq] [b] pos) δ (!PyData.eqv d1 d2) := vt_cmp (op_neD (hu20 hr)) (odDat l1 l2) h1 h2 (nomark _)
theorem ve_eq (hr : Room k X.A) (l1 : Lay 20 d1) (l2 : Lay 20 d2) (h1 : VE X a δ d1) (h2 : VE X b δ d2) : VE X (.Compare a [.Eq] [b] pos) δ (.bool (PyData.eqv d1 d2)) := ve_cmp (op_eqD (hu20 hr)) (odDat l1 l2) h1 h2 (nomark _)
theorem vt_in (hr : Room k X.A) (hs : isSeq d2 = true) (l1 : Lay 20 d1) (l2 : Lay 20 d2) (h1 : VE X a δ d1) (h2 : VE X b δ d2) (hm : behindInMarks .In b = false := by with_unfolding_all rfl) : VT X (.Compare a [.In] [b] pos) δ (anyEq d1 d2) := vt_cmp (op_inD (hu20 hr)) (odIn (neg := false) hs l1 l2) h1 h2 hm
theorem ve_ix (h1 : VE X a δ (.list ds)) (h2 : VE X b δ (.int i)) (h : atI ds i = some d) (hs : PlainIx b := by intro _ _; rfl) : VE X (.Subscript a b pos) δ d := ve_ixR ix_seq (odIx h) h1 h2 hs
theorem ve_ixT (h1 : VE X a δ (.tuple ds)) (h2 : VE X b δ (.int i)) (h : atI ds i = some d) (hs : PlainIx b := by intro _ _; rfl) : VE X (.Subscript a b pos) δ d := ve_ixR ix_seq (odIxT h) h1 h2 hs

/-! tests -/
theorem pt_never : PT X e (fun _ _ _ => False) := fun _ _ _ _ _ _ h => h.elim
theorem vt_not {k : Bool} (h : VT X a δ k) : VT X (.UnaryOp .Not a pos) δ (!k) := .of (pt_not pt_c) fun B0 B σ H0 H Q f q => h B0 B σ H0 H _ f q
theorem vt_and {k1 k2 : Bool} (h1 : VT X a δ k1) (h2 : k1 = true → VT X b δ k2) : VT X (.BoolOp .And [a, b] pos) δ (k1 && k2) := by
  cases k1 with
  | true =>
    exact .of (pw_and pt_c (pw_and1 pt_c)).pt fun B0 B σ H0 H Q f q => h1 B0 B σ H0 H _ f fun H1 H1' g => by
      rw [if_pos rfl]
      exact h2 rfl B0 B σ H1 H1' _ (f.grow g) fun H2 H2' g2 => q H2 H2' (g.trans g2)
  | false =>
    exact .of (pw_and pt_c (pw_and1 pt_never)).pt fun B0 B σ H0 H Q f q => h1 B0 B σ H0 H _ f fun H1 H1' g => by
      rw [if_neg Bool.false_ne_true]
      exact q H1 H1' g
theorem vt_or {k1 k2 : Bool} (h1 : VT X a δ k1) (h2 : k1 = false → VT X b δ k2) : VT X (.BoolOp .Or [a, b] pos) δ (k1 || k2) := by
  cases k1 with
  | false =>
    exact .of (pw_or pt_c (pw_or1 pt_c)).pt fun B0 B σ H0 H Q f q => h1 B0 B σ H0 H _ f fun H1 H1' g => by
      rw [if_neg Bool.false_ne_true]
      exact h2 rfl B0 B σ H1 H1' _ (f.grow g) fun H2 H2' g2 => q H2 H2' (g.trans g2)
  | true =>
    exact .of (pw_or pt_c (pw_or1 pt_never)).pt fun B0 B σ H0 H Q f q => h1 B0 B σ H0 H _ f fun H1 H1' g => by
      rw [if_pos rfl]
      exact q H1 H1' g
theorem vt_or3 {k1 k2 k3 : Bool} (h1 : VT X a δ k1) (h2 : k1 = false → VT X b δ k2) (h3 : k1 = false → k2 = false → VT X c δ k3) : VT X (.BoolOp .Or [a, b, c] pos) δ (k1 || (k2 || k3)) := by
  cases k1 with
  | true =>
    exact .of (pw_or pt_c (pw_or pt_never (pw_or1 pt_never))).pt fun B0 B σ H0 H Q f q => h1 B0 B σ H0 H _ f fun H1 H1' g => by
      rw [if_pos rfl]
      exact q H1 H1' g
  | false =>
    cases k2 with
    | true =>
      exact .of (pw_or pt_c (pw_or pt_c (pw_or1 pt_never))).pt fun B0 B σ H0 H Q f q => h1 B0 B σ H0 H _ f fun H1 H1' g => by
        rw [if_neg Bool.false_ne_true]
        refine h2 rfl B0 B σ H1 H1' _ (f.grow g) fun H2 H2' g2 => ?_
        rw [if_pos rfl]
        exact q H2 H2' (g.trans g2)
    | false =>
      exact .of (pw_or pt_c (pw_or pt_c (pw_or1 pt_c))).pt fun B0 B σ H0 H Q f q => h1 B0 B σ H0 H _ f fun H1 H1' g => by
        rw [if_neg Bool.false_ne_true]
        refine h2 rfl B0 B σ H1 H1' _ (f.grow g) fun H2 H2' g2 => ?_
        rw [if_neg Bool.false_ne_true]
        exact h3 rfl rfl B0 B σ H2 H2' _ ((f.grow g).grow g2) fun H3 H3' g3 => q H3 H3' ((g.trans g2).trans g3)
/-- a value's truth -/
def truD : PyData → Option Bool
  | .none => some false
  | .bool b => some b
  | .int i => some (i != 0)
  | .list ds => some (!ds.isEmpty)
  | .tuple ds => some (!ds.isEmpty)
  | _ => none
theorem Reps.empty {K : PySem.W.Frag} {H : Hp} {xs : List V} {ds : List PyData} (r : Reps K H xs ds) : xs.isEmpty = ds.isEmpty := by cases r <;> rfl
theorem vt_tru {t : Bool} (h : VE X a δ d) (ht : truD d = some t) (he : ∀ whole, isTrue a X.env whole = (do let v ← whole; standAt a.pos; holding [v] (truthy v)) := by intro _; rfl) : VT X a δ t :=
  .of (pt_truth pe_c he) fun B0 B σ H0 H Q f q => h B0 B σ H0 H _ f fun v H1 H1' g r => by
    refine ⟨t, ?_, q H1 H1' g⟩
    cases r with
    | non => cases ht; exact (rfl : false = false)
    | bl b => cases ht; exact (rfl : t = t)
    | int i => cases ht; exact (rfl : (i != 0) = (i != 0))
    | str x => cases ht
    | lst hq r => cases ht; exact .inl ⟨_, g.sub.seq hq, by rw [r.empty]⟩
    | tup hq r => cases ht; exact .inr (.inl ⟨_, g.sub.seqT hq, by rw [r.empty]⟩)

/-! displays, arguments -/
theorem va_nil : VA X [] δ [] := ⟨_, pa_nil, fun _ _ _ _ _ _ f q => q _ _ _ (.refl f.sub) .nil⟩
theorem va_cons (h : VE X e δ d) (hr : VA X es δ ds) (hs : starEach (e :: es) X.env = (false, eval e X.env) :: starEach es X.env := by rfl) : VA X (e :: es) δ (d :: ds) := by
  obtain ⟨t, p, ht⟩ := hr
  exact ⟨_, pa_cons pe_c p hs, fun B0 B σ H0 H Q f q => h B0 B σ H0 H _ f fun v H1 H1' g r => ht B0 B σ H1 H1' _ (f.grow g) fun vs H2 H2' g2 rs => q _ _ _ (g.trans g2) (.cons (r.mono g2.sml) rs)⟩
theorem ve_tup {x1} (h : VA X es δ ds) (hz : ds.length ≤ sizeLine := by (simp only [List.length]; rw [sizeLine_eq]; decide)) : VE X (.Tuple es x1 pos) δ (.tuple ds) := by
  obtain ⟨t, p, ht⟩ := h
  exact .of (pe_tup p) fun B0 B σ H0 H Q f q => ht B0 B σ H0 H _ f fun vs H1 H1' g r => ⟨by rw [r.length]; exact hz, fun a ha => q _ _ _ (g.trans (.laid g.sub ha)) (.tup (SqT.of upd_same) (r.mono (Grow.laid g.sub ha).sml))⟩
theorem vo_lst (h : VA X es δ ds) (hz : ds.length ≤ sizeLine := by (simp only [List.length]; rw [sizeLine_eq]; decide)) : VO X (.List es pos) δ ds := by
  obtain ⟨t, p, ht⟩ := h
  exact .of (pe_lst p) fun B0 B σ H0 H Q f q => ht B0 B σ H0 H _ f fun vs H1 H1' g r => ⟨by rw [r.length]; exact hz, fun a ha => q a vs H1 _ (g.trans (.loose g.sub ha)) (g.big.free ha) (g.sub.free ha) upd_same r⟩

/-! slices -/
def cutD {α : Type} (xs : List α) (lo hi : Option Int) : List α := (xs.drop (HT.sIx xs.length 0 lo)).take (HT.sIx xs.length xs.length hi - HT.sIx xs.length 0 lo)
theorem Reps.cut {K : PySem.W.Frag} {H : Hp} {xs : List V} (r : Reps K H xs ds) (lo hi : Option Int) : Reps K H (cutV xs lo hi) (cutD ds lo hi) := by
  unfold cutV cutD
  rw [r.length]
  exact (r.drop _).take _
inductive PartD (X : Cx) (δ : List Slot) : Option Expr → Option Int → Prop
  | no : PartD X δ none none
  | yes {e : Expr} {i : Int} : VE X e δ (.int i) → PartD X δ (some e) (some i)
theorem PartD.ok {o : Option Expr} {p : Option Int} (h : PartD X δ o p) : ∃ t, PO X o t ∧ ∀ B0 B σ H0 H Q, FrD X.K B0 B H0 H σ δ → (∀ H0' H', Grow H0 H H0' H' → Q p H') → t σ H Q := by
  cases h with
  | no => exact ⟨_, po_none, fun _ _ _ _ _ _ f q => q _ _ (.refl f.sub)⟩
  | yes h => exact ⟨_, po_some pe_c, fun B0 B σ H0 H Q f q => h B0 B σ H0 H _ f fun v H1 H1' g r => by cases r; exact ⟨_, rfl, q _ _ g⟩⟩
theorem vo_slice {lo hi : Option Expr} {l u : Option Int} {p2 : Pos} (h : VE X a δ (.list ds)) (hl : PartD X δ lo l) (hh : PartD X δ hi u) : VO X (.Subscript a (.Slice lo hi none p2) pos) δ (cutD ds l u) := by
  obtain ⟨tl, pl, ql⟩ := hl.ok
  obtain ⟨th, ph, qh⟩ := hh.ok
  refine .of (pe_slice sl_list pe_c pl ph) fun B0 B σ H0 H Q f q => h B0 B σ H0 H _ f fun v H1 H1' g r => ql B0 B σ H1 H1' _ (f.grow g) fun H2 H2' g2 => qh B0 B σ H2 H2' _ ((f.grow g).grow g2) fun H3 H3' g3 => ?_
  cases r with
  | lst hq r =>
    refine ⟨_, _, rfl, g3.sub.seq ((g2.sml.trans g3.sml).seq hq), fun p hp => ?_⟩
    have gg := (g.trans g2).trans g3
    exact q p _ H3 _ (gg.trans (.loose g3.sub hp)) (gg.big.free hp) (g3.sub.free hp) upd_same ((r.mono (g2.sml.trans g3.sml)).cut l u)
theorem ve_sliceT {lo hi : Option Expr} {l u : Option Int} {p2 : Pos} (h : VE X a δ (.tuple ds)) (hl : PartD X δ lo l) (hh : PartD X δ hi u) (hw : ¬ (HT.sIx ds.length 0 l = 0 ∧ HT.sIx ds.length ds.length u = ds.length)) :
    VE X (.Subscript a (.Slice lo hi none p2) pos) δ (.tuple (cutD ds l u)) := by
  obtain ⟨tl, pl, ql⟩ := hl.ok
  obtain ⟨th, ph, qh⟩ := hh.ok
  refine .of (pe_slice sl_tup pe_c pl ph) fun B0 B σ H0 H Q f q => h B0 B σ H0 H _ f fun v H1 H1' g r => ql B0 B σ H1 H1' _ (f.grow g) fun H2 H2' g2 => qh B0 B σ H2 H2' _ ((f.grow g).grow g2) fun H3 H3' g3 => ?_
  cases r with
  | tup hq r =>
    refine ⟨_, _, rfl, g3.sub.seqT ((g2.sml.trans g3.sml).seqT hq), by rw [r.length]; exact hw, fun p hp => ?_⟩
    have gg := (g.trans g2).trans g3
    exact q _ _ _ (gg.trans (.laid g3.sub hp)) (.tup (SqT.of upd_same) (((r.mono (g2.sml.trans g3.sml)).cut l u).mono (Grow.laid g3.sub hp).sml))

/-! built-in functions -/
def CallD (K : PySem.W.Frag) (r : List V → Hp → VK → Prop) (ds : List PyData) (d : PyData) : Prop := ∀ vs H0 H Q, Same H0 H → Reps K H0 vs ds → (∀ v H0' H', Grow H0 H H0' H' → Rep K H0' v d → Q v H') → r vs H Q
def CallO (K : PySem.W.Frag) (r : List V → Hp → VK → Prop) (ds es : List PyData) : Prop := ∀ vs H0 H Q, Same H0 H → Reps K H0 vs ds →
  (∀ p xs H0' H', Grow H0 H H0' H' → H p = none → H0' p = none → H' p = some (.lst xs) → Reps K H0' xs es → Q (.ref p) H') → r vs H Q
theorem ve_callB {x : Str} {id : String} {r : List V → Hp → VK → Prop} {p : Pos} (hc : CallR X (.builtin id) r) (hd : CallD X.K r ds d) (ha : VA X (e :: es) δ ds) (hm : X.mg x = none) (hv : bootBuiltins x = some (.builtin id)) (hg : Gl X x := by rfl) (hn : x ≠ "__name__" := by decide) (hdb : (x == ("__debug__" : Str)) = false := by decide)
    (he : starEach (e :: es) X.env = (false, eval e X.env) :: starEach es X.env := by rfl) (hpl : (backTo pos (starEach es X.env)).any (·.1) = false := by rfl) : VE X (.Call (.Name x p) (e :: es) [] pos) δ d := by
  obtain ⟨t, pa, ht⟩ := ha
  exact .of (pe_callB hc hg hm hv pa hn hdb he hpl) fun B0 B σ H0 H Q f q => ht B0 B σ H0 H _ f fun vs H1 H1' g r => hd vs H1 H1' Q g.sub r fun v H2 H2' g2 r2 => q v H2 H2' (g.trans g2) r2
theorem vo_callB {x : Str} {id : String} {r : List V → Hp → VK → Prop} {p : Pos} {zs : List PyData} (hc : CallR X (.builtin id) r) (hd : CallO X.K r ds zs) (ha : VA X (e :: es) δ ds) (hm : X.mg x = none) (hv : bootBuiltins x = some (.builtin id)) (hg : Gl X x := by rfl) (hn : x ≠ "__name__" := by decide) (hdb : (x == ("__debug__" : Str)) = false := by decide)
    (he : starEach (e :: es) X.env = (false, eval e X.env) :: starEach es X.env := by rfl) (hpl : (backTo pos (starEach es X.env)).any (·.1) = false := by rfl) : VO X (.Call (.Name x p) (e :: es) [] pos) δ zs := by
  obtain ⟨t, pa, ht⟩ := ha
  exact .of (pe_callB hc hg hm hv pa hn hdb he hpl) fun B0 B σ H0 H Q f q => ht B0 B σ H0 H _ f fun vs H1 H1' g r => hd vs H1 H1' Q g.sub r fun v xs H2 H2' g2 a1 a2 a3 a4 => q v xs H2 H2' (g.trans g2) (g.big.free a1) a2 a3 a4
theorem ve_callTy {x : Str} {id : String} {r : List V → Hp → VK → Prop} {p : Pos} (hc : CallR X (.type id) r) (hd : CallD X.K r ds d) (ha : VA X (e :: es) δ ds) (hm : X.mg x = none) (hv : bootBuiltins x = some (.type id)) (hg : Gl X x := by rfl) (hn : x ≠ "__name__" := by decide) (hdb : (x == ("__debug__" : Str)) = false := by decide)
    (he : starEach (e :: es) X.env = (false, eval e X.env) :: starEach es X.env := by rfl) (hpl : (backTo pos (starEach es X.env)).any (·.1) = false := by rfl) : VE X (.Call (.Name x p) (e :: es) [] pos) δ d := by
  obtain ⟨t, pa, ht⟩ := ha
  exact .of (pe_callTy hc hg hm hv pa hn hdb he hpl) fun B0 B σ H0 H Q f q => ht B0 B σ H0 H _ f fun vs H1 H1' g r => hd vs H1 H1' Q g.sub r fun v H2 H2' g2 r2 => q v H2 H2' (g.trans g2) r2
theorem vo_callTy {x : Str} {id : String} {r : List V → Hp → VK → Prop} {p : Pos} {zs : List PyData} (hc : CallR X (.type id) r) (hd : CallO X.K r ds zs) (ha : VA X (e :: es) δ ds) (hm : X.mg x = none) (hv : bootBuiltins x = some (.type id)) (hg : Gl X x := by rfl) (hn : x ≠ "__name__" := by decide) (hdb : (x == ("__debug__" : Str)) = false := by decide)
    (he : starEach (e :: es) X.env = (false, eval e X.env) :: starEach es X.env := by rfl) (hpl : (backTo pos (starEach es X.env)).any (·.1) = false := by rfl) : VO X (.Call (.Name x p) (e :: es) [] pos) δ zs := by
  obtain ⟨t, pa, ht⟩ := ha
  exact .of (pe_callTy hc hg hm hv pa hn hdb he hpl) fun B0 B σ H0 H Q f q => ht B0 B σ H0 H _ f fun vs H1 H1' g r => hd vs H1 H1' Q g.sub r fun v xs H2 H2' g2 a1 a2 a3 a4 => q v xs H2 H2' (g.trans g2) (g.big.free a1) a2 a3 a4
theorem Reps.one {K : PySem.W.Frag} {H : Hp} {vs : List V} (r : Reps K H vs [d]) : ∃ v, vs = [v] ∧ Rep K H v d := by
  cases r with | cons a t => cases t; exact ⟨_, rfl, a⟩
theorem cdLen {K : PySem.W.Frag} : CallD K (fun xs H Q => ∃ p ys, xs = [.ref p] ∧ (SqL K H p ys ∨ SqT K H p ys) ∧ Q (.int ys.length) H) [.list ds] (.int ds.length) := fun vs H0 H Q s r k => by
  obtain ⟨v, rfl, r1⟩ := r.one
  cases r1 with | lst hq r => exact ⟨_, _, rfl, .inl (s.seq hq), k _ _ _ (.refl s) (by rw [r.length]; exact .int _)⟩
theorem coList {K : PySem.W.Frag} : CallO K (fun xs H Q => ∃ p ys, xs = [.ref p] ∧ (SqL K H p ys ∨ SqT K H p ys) ∧ ∀ l, H l = none → Q (.ref l) (upd H l (.lst ys))) [.list ds] ds := fun vs H0 H Q s r k => by
  obtain ⟨v, rfl, r1⟩ := r.one
  cases r1 with | lst hq r => exact ⟨_, _, rfl, .inl (s.seq hq), fun l hl => k l _ H0 _ (.loose s hl) hl (s.free hl) upd_same r⟩
theorem cdTuple {K : PySem.W.Frag} : CallD K (fun xs H Q => ∃ p ys, xs = [.ref p] ∧ ((SqL K H p ys ∧ ∀ l, H l = none → Q (.ref l) (upd H l (.tup ys))) ∨ (SqT K H p ys ∧ Q (.ref p) H))) [.list ds] (.tuple ds) := fun vs H0 H Q s r k => by
  obtain ⟨v, rfl, r1⟩ := r.one
  cases r1 with | lst hq r => exact ⟨_, _, rfl, .inl ⟨s.seq hq, fun l hl => k _ _ _ (.laid s hl) (.tup (SqT.of upd_same) (r.mono (Grow.laid s hl).sml))⟩⟩
theorem ve_len {p : Pos} (h : VE X a δ (.list ds)) (hm : X.mg "len" = none) (hg : Gl X "len" := by rfl) (hs : starEach [a] X.env = (false, eval a X.env) :: starEach [] X.env := by rfl) : VE X (.Call (.Name "len" p) [a] [] pos) δ (.int ds.length) := ve_callB call_len_seq cdLen (va_cons h va_nil hs) hm PySem.boot_len hg (he := hs)

/-! lists put together -/
theorem vo_cat {d1 d2 : List PyData} (h1 : VE X a δ (.list d1)) (h2 : VE X b δ (.list d2)) (hz : d1.length + d2.length ≤ sizeLine) : VO X (.BinOp a .Add b pos) δ (d1 ++ d2) := by
  refine .of (pe_op op_catS pe_c pe_c) fun B0 B σ H0 H Q f q => h1 B0 B σ H0 H _ f fun v H1 H1' g1 r1 => h2 B0 B σ H1 H1' _ (f.grow g1) fun u H2 H2' g2 r2 => ?_
  cases r1 with
  | lst hq r1 =>
    cases r2 with
    | lst hq2 r2 =>
      have gg := g1.trans g2
      refine ⟨_, _, _, _, rfl, rfl, g2.sub.seq (g2.sml.seq hq), g2.sub.seq hq2, by rw [r1.length, r2.length]; exact hz, fun p hp => ?_⟩
      exact q p _ H2 _ (gg.trans (.loose g2.sub hp)) (gg.big.free hp) (g2.sub.free hp) upd_same ((r1.mono g2.sml).append r2)
end
end L2

set_option Elab.async false
set_option linter.all false
set_option maxRecDepth 100000
set_option maxHeartbeats 4000000
/-! ### targets, walks, blocks, statements, defs -/
namespace L2
open PySem PySem.Spec PyProof.Rows

/-! targets -/
inductive Tgt where
  | one (i : Nat)
  | tup (is : List Nat)
def gNames : List Nat → TGs
  | [] => gNil
  | i :: r => gCons (gName i) (gNames r)
def gOf (K : PySem.W.Frag) : Tgt → TG
  | .one i => gName i
  | .tup is => gTup K is.length (gNames is)
def setAll : List Nat → List PyData → List Slot → List Slot
  | i :: r, d :: ds, δ => setAll r ds (δ.set i (.val d))
  | _, _, δ => δ
def asgD : Tgt → PyData → List Slot → Option (List Slot)
  | .one i, d, δ => some (δ.set i (.val d))
  | .tup is, .tuple ds, δ => if ds.length = is.length then some (setAll is ds δ) else none
  | _, _, _ => none
section
variable {K : PySem.W.Frag} {B0 B H0 H : Hp}
theorem names_ok : ∀ {is : List Nat} {xs : List V} {ds : List PyData} {σ : St} {δ : List Slot} {Q : St → Hp → Prop}, FrD K B0 B H0 H σ δ → Reps K H0 xs ds → ds.length = is.length → (∀ σ', FrD K B0 B H0 H σ' (setAll is ds δ) → Q σ' H) → gNames is xs σ H Q
  | [], xs, ds, σ, δ, Q, f, r, hl, q => by
    have : ds = [] := List.eq_nil_of_length_eq_zero hl
    subst this
    cases r
    exact ⟨rfl, q σ f⟩
  | i :: is, xs, ds, σ, δ, Q, f, r, hl, q => by
    cases r with
    | nil => cases hl
    | cons a t => exact ⟨_, _, rfl, names_ok (is := is) (f.set a) t (by simpa using hl) q⟩
theorem asg_ok {tgt : Tgt} {d : PyData} {v : V} {σ : St} {δ δ' : List Slot} {Q : St → Hp → Prop} (f : FrD K B0 B H0 H σ δ) (r : Rep K H0 v d) (h : asgD tgt d δ = some δ') (q : ∀ σ', FrD K B0 B H0 H σ' δ' → Q σ' H) : gOf K tgt v σ H Q := by
  cases tgt with
  | one i => cases h; exact q _ (f.set r)
  | tup is =>
    cases r with
    | tup hq r =>
      rename_i ds
      have h' : (if ds.length = is.length then some (setAll is ds δ) else none) = some δ' := h
      by_cases hl : ds.length = is.length
      · rw [if_pos hl] at h'
        cases h'
        exact ⟨_, _, rfl, f.sub.seqT hq, by rw [r.length, hl], names_ok f r hl q⟩
      · rw [if_neg hl] at h'; cases h'
    | _ => cases h
end

/-! walks -/
def ItD (K : PySem.W.Frag) (J : It) (H0 : Hp) (ds : List PyData) : Prop := ∀ H0' H', Same H0 H0' → Same H0' H' → ∀ i, (i < ds.length → J.go i H') ∧ (ds.length ≤ i → J.stop i H') ∧
  ∀ x H'' d, ds[i]? = some d → J.yld i H' x H'' → ∃ H0'', Grow H0' H' H0'' H'' ∧ Rep K H0'' x d
def VI (X : Cx) (tg iter : Expr) (δ : List Slot) (ds : List PyData) : Prop := ∃ wi, PI X tg iter wi ∧ ∀ B0 B σ H0 H R, FrD X.K B0 B H0 H σ δ → (∀ J H0' H', Grow H0 H H0' H' → ItD X.K J H0' ds → R J H') → wi σ H R
def enumD (ds : List PyData) : List PyData := ds.zipIdx.map fun p => .tuple [.int p.2, p.1]
theorem enumD_length (ds : List PyData) : (enumD ds).length = ds.length := by simp [enumD]
theorem enumD_get {ds : List PyData} {i : Nat} {d : PyData} (h : (enumD ds)[i]? = some d) : ∃ x, ds[i]? = some x ∧ d = .tuple [.int i, x] := by
  unfold enumD at h
  rw [List.getElem?_map, List.getElem?_zipIdx] at h
  cases e : ds[i]? with
  | none => rw [e] at h; simp at h
  | some x => rw [e] at h; simp at h; exact ⟨x, rfl, h.symm⟩
def rangeD (n : Nat) : List PyData := (List.range n).map fun (i : Nat) => .int (i : Int)
section
variable {X : Cx} {tg a b : Expr} {δ : List Slot} {ds : List PyData} {pos : Pos}
theorem vi_list (h : VE X a δ (.list ds)) : VI X tg a δ ds := ⟨_, pi_list pe_c, fun B0 B σ H0 H R f q => h B0 B σ H0 H _ f fun v H1 H1' g r => by
  cases r with
  | lst hq r =>
    refine ⟨_, rfl, ⟨_, g.sub.seq hq⟩, q _ H1 H1' g fun Ha Hb s1 s2 i => ?_⟩
    have hl := r.length
    have hS := (s1.trans s2).seq hq
    refine ⟨fun hi => ?_, fun hi => ⟨_, hS, by omega⟩, fun x H'' d hd ⟨e, y⟩ => ?_⟩
    · obtain ⟨x, hx, _⟩ := r.get (i := i) (d := ds[i]) (by simp [hi])
      exact ⟨_, x, hS, hx⟩
    · subst e
      exact ⟨Ha, .refl s2, (r.mono s1).at hd (y _ hS)⟩⟩
theorem vi_range {p : Pos} {n : Int} (h : VE X a δ (.int n)) (hm : X.mg "range" = none) (h1 : -(2 ^ 62) ≤ n) (h2 : n < 2 ^ 62) (hg : Gl X "range" := by rfl) (hs : starEach [a] X.env = [(false, eval a X.env)] := by rfl) : VI X tg (.Call (.Name "range" p) [a] [] pos) δ (rangeD n.toNat) :=
  ⟨_, pi_range1 hg hm (pa_cons pe_c pa_nil hs) hs, fun B0 B σ H0 H R f q => h B0 B σ H0 H _ f fun v H1 H1' g r => by
    cases r
    refine ⟨n, rfl, h1, h2, q _ H1 H1' g fun Ha Hb s1 s2 i => ⟨fun hi => (show i < n.toNat from by simpa [rangeD] using hi), fun hi => (show n.toNat ≤ i from by simpa [rangeD] using hi), fun x H'' d hd ⟨e, y⟩ => ?_⟩⟩
    subst e
    subst y
    unfold rangeD at hd
    rw [List.getElem?_map] at hd
    have hi : i < n.toNat := by
      rcases Nat.lt_or_ge i n.toNat with z | z
      · exact z
      · rw [List.getElem?_eq_none (by simpa using z)] at hd; cases hd
    rw [List.getElem?_range hi] at hd
    cases hd
    exact ⟨Ha, .refl s2, by rw [Int.zero_add]; exact .int _⟩⟩
theorem vi_enum {p tp : Pos} {elts : List Expr} {k} (h : VE X a δ (.list ds)) (hm : X.mg "enumerate" = none) (hg : Gl X "enumerate" := by rfl) (hs : starEach [a] X.env = [(false, eval a X.env)] := by rfl) : VI X (.Tuple elts k tp) (.Call (.Name "enumerate" p) [a] [] pos) δ (enumD ds) :=
  ⟨_, pi_enum hg hm (pa_cons pe_c pa_nil hs) hs, fun B0 B σ H0 H R f q => h B0 B σ H0 H _ f fun v H1 H1' g r => by
    cases r with
    | lst hq r =>
      refine ⟨_, rfl, ⟨_, g.sub.seq hq⟩, q _ H1 H1' g fun Ha Hb s1 s2 i => ?_⟩
      have hl := r.length
      have hS := (s1.trans s2).seq hq
      refine ⟨fun hi => ?_, fun hi => ⟨_, hS, by rw [enumD_length] at hi; omega⟩, fun x H'' d hd ⟨t, y, e1, e2, e3, e4⟩ => ?_⟩
      · rw [enumD_length] at hi
        obtain ⟨x, hx, _⟩ := r.get (i := i) (d := ds[i]) (by simp [hi])
        exact ⟨_, x, hS, hx⟩
      · obtain ⟨z, hz, rfl⟩ := enumD_get hd
        subst e1
        subst e3
        refine ⟨upd Ha t (.tup [.int i, y]), .laid s2 e2, .tup (SqT.of upd_same) (.cons (.int _) (.cons ?_ .nil))⟩
        exact ((r.mono s1).at hz (e4 _ hS)).mono (Grow.laid s2 e2).sml⟩
end

/-! blocks -/
def cTs (X : Cx) (ifs : List Expr) : TT := fun σ H Q => ∀ pins s, Inv X pins σ H s → wpAny (model X.prog X.w) X.A (testsOf ifs X.env) (TP X pins σ Q) X.xe s
def VTs (X : Cx) (ifs : List Expr) (δ : List Slot) (b : Bool) : Prop := ∀ B0 B σ H0 H Q, FrD X.K B0 B H0 H σ δ → (∀ H0' H', Grow H0 H H0' H' → Q b H') → cTs X ifs σ H Q
theorem vts_nil {X : Cx} {δ : List Slot} : VTs X [] δ true := fun _ _ _ _ _ _ f q pins s I => pts_nil pins s _ _ _ I (q _ _ (.refl f.sub))
theorem vts_one {X : Cx} {c : Expr} {δ : List Slot} {b : Bool} (h : VT X c δ b) : VTs X [c] δ b := fun B0 B σ H0 H Q f q pins s I => pts_one (t := cT X c) pt_c pins s σ H Q I (h B0 B σ H0 H Q f q)
def keepV : Slot → Slot
  | .val d => .val d
  | _ => .un
def compD (own : List Str) (cap : List Nat) (δ : List Slot) : List Slot := List.replicate own.length .un ++ cap.map fun i => keepV (δ.getD i .un)
section
variable {K : PySem.W.Frag} {B0 B H0 H : Hp} {σ : St} {δ : List Slot}
theorem FrD.comp (f : FrD K B0 B H0 H σ δ) (own : List Str) (cap : List Nat) : FrD K B0 B H0 H (compSt own cap σ) (compD own cap δ) := by
  have noOwn : ∀ (i : Nat) ds, (compD own cap δ)[i]? ≠ some (.own ds) := fun i ds e => by
    unfold compD at e
    by_cases hi : i < own.length
    · rw [List.getElem?_append_left (by simpa using hi), List.getElem?_replicate] at e
      split at e <;> cases e
    · rw [List.getElem?_append_right (by simpa using Nat.le_of_not_lt hi), List.getElem?_map] at e
      cases q : cap[i - (List.replicate own.length Slot.un).length]? with
      | none => rw [q] at e; cases e
      | some j =>
        rw [q] at e
        simp only [Option.map_some, Option.some.injEq] at e
        revert e
        cases δ.getD j .un <;> (intro e; cases e)
  refine ⟨f.ent, by simp [compSt, compD], fun i sl e => ?_, fun i j ds es p _ a1 => absurd a1 (noOwn i ds)⟩
  unfold compD at e
  unfold compSt
  by_cases hi : i < own.length
  · rw [List.getElem?_append_left (by simpa using hi), List.getElem?_replicate] at e
    split at e <;> cases e <;> trivial
  · rw [List.getElem?_append_right (by simpa using Nat.le_of_not_lt hi), List.getElem?_map, List.length_replicate] at e
    rw [List.getElem?_append_right (by simpa using Nat.le_of_not_lt hi), List.getElem?_map, List.length_replicate]
    cases q : cap[i - own.length]? with
    | none => rw [q] at e; cases e
    | some j =>
      rw [q] at e
      simp only [Option.map_some, Option.some.injEq] at e ⊢
      cases w : δ[j]? with
      | none => rw [List.getD_eq_getElem?_getD, w] at e; subst e; trivial
      | some sl' =>
        rw [List.getD_eq_getElem?_getD, w] at e
        cases sl' with
        | un => subst e; trivial
        | ref a => subst e; trivial
        | own ds => subst e; trivial
        | val d =>
          subst e
          obtain ⟨v, h1, h2⟩ := f.slot j _ w
          exact ⟨v, by rw [List.getD_eq_getElem?_getD, h1]; rfl, h2⟩
/-- names are forgotten -/
theorem FrD.forget {δ' : List Slot} (f : FrD K B0 B H0 H σ δ) (hl : δ'.length = δ.length) (h : ∀ (i : Nat) sl, δ'[i]? = some sl → sl = .un ∨ δ[i]? = some sl) : FrD K B0 B H0 H σ δ' := by
  refine ⟨f.ent, by rw [hl]; exact f.len, fun i sl e => ?_, fun i j ds es p hij a1 a2 a3 => ?_⟩
  · rcases h i sl e with rfl | z
    · trivial
    · exact f.slot i sl z
  · rcases h i _ a1 with z | z
    · cases z
    · rcases h j _ a2 with y | y
      · cases y
      · exact f.apart i j ds es p hij z y a3
/-- an object that no name of the frame owns is changed -/
theorem FrD.touch {D : Addr} {o : HO} (f : FrD K B0 B H0 H σ δ) (h0 : H0 D = none) (hB : B D = none) (hn : ∀ (i : Nat) ds, δ[i]? ≠ some (.own ds)) : FrD K B0 B H0 (upd H D o) σ δ := by
  refine ⟨⟨fun b u e => by rw [upd_ne (ne_of_none e hB)]; exact f.ent.big b u e, f.ent.sml, fun b u e => by rw [upd_ne (ne_of_none e h0)]; exact f.ent.sub b u e, f.ent.new⟩, f.len, fun i sl e => ?_, f.apart⟩
  have q := f.slot i sl e
  cases sl with
  | un => trivial
  | ref a => exact q
  | val d => exact q
  | own ds => exact absurd e (hn i ds)
end
theorem setAll_length : ∀ (is : List Nat) (ds : List PyData) (δ : List Slot), (setAll is ds δ).length = δ.length
  | [], _, _ => rfl
  | _ :: _, [], _ => rfl
  | i :: is, d :: ds, δ => by
    show (setAll is ds (δ.set i (.val d))).length = _
    rw [setAll_length]; simp
theorem setAll_get : ∀ (is : List Nat) (ds : List PyData) (δ : List Slot) (j : Nat), j ∉ is → (setAll is ds δ)[j]? = δ[j]?
  | [], _, _, _, _ => rfl
  | _ :: _, [], _, _, _ => rfl
  | i :: is, d :: ds, δ, j, h => by
    show (setAll is ds (δ.set i (.val d)))[j]? = _
    rw [setAll_get is ds _ j fun z => h (List.mem_cons_of_mem _ z), List.getElem?_set_ne (fun (z : i = j) => h (by rw [z]; exact List.mem_cons_self))]
def tgtIn (n : Nat) : Tgt → Bool
  | .one i => decide (i < n)
  | .tup is => is.all fun i => decide (i < n)
theorem comp_back {own : List Str} {cap : List Nat} {δ δ' : List Slot} {tgt : Tgt} {d : PyData} (ht : tgtIn own.length tgt = true) (h : asgD tgt d (compD own cap δ) = some δ') :
    δ'.length = (compD own cap δ).length ∧ ∀ (i : Nat) sl, (compD own cap δ)[i]? = some sl → sl = .un ∨ δ'[i]? = some sl := by
  have low : ∀ (i : Nat) sl, i < own.length → (compD own cap δ)[i]? = some sl → sl = .un := fun i sl hi e => by
    unfold compD at e
    rw [List.getElem?_append_left (by simpa using hi), List.getElem?_replicate] at e
    split at e <;> cases e <;> rfl
  cases tgt with
  | one i =>
    cases h
    refine ⟨by simp, fun j sl e => ?_⟩
    have hi : i < own.length := by simpa [tgtIn] using ht
    by_cases hj : j < own.length
    · exact .inl (low j sl hj e)
    · exact .inr (by rw [List.getElem?_set_ne (by omega)]; exact e)
  | tup is =>
    cases d with
    | tuple ds =>
      have h' : (if ds.length = is.length then some (setAll is ds (compD own cap δ)) else none) = some δ' := h
      by_cases hl : ds.length = is.length
      · rw [if_pos hl] at h'
        cases h'
        refine ⟨setAll_length _ _ _, fun j sl e => ?_⟩
        by_cases hj : j < own.length
        · exact .inl (low j sl hj e)
        · refine .inr ?_
          rw [setAll_get _ _ _ _ fun z => hj ?_]
          · exact e
          · have := List.all_eq_true.mp ht j z
            simpa using this
      · rw [if_neg hl] at h'; cases h'
    | _ => cases h
theorem compD_noOwn {own : List Str} {cap : List Nat} {δ : List Slot} (i : Nat) (ds : List PyData) : (compD own cap δ)[i]? ≠ some (.own ds) := fun e => by
  unfold compD at e
  by_cases hi : i < own.length
  · rw [List.getElem?_append_left (by simpa using hi), List.getElem?_replicate] at e
    split at e <;> cases e
  · rw [List.getElem?_append_right (by simpa using Nat.le_of_not_lt hi), List.getElem?_map] at e
    cases q : cap[i - (List.replicate own.length Slot.un).length]? with
    | none => rw [q] at e; cases e
    | some j =>
      rw [q] at e
      simp only [Option.map_some, Option.some.injEq] at e
      revert e
      cases δ.getD j .un <;> (intro e; cases e)

section
variable {X : Cx} {sc : Scope} {own N : List Str} {cap : List Nat} {cl : List (Str × Addr)} {tg elt iter : Expr} {ifs : List Expr} {δ : List Slot} {ds : List PyData} {pos : Pos} {tgt : Tgt}
/-- one turn of a block: F tells what it adds for the item -/
def BlockD (X : Cx) (sc : Scope) (own : List Str) (cap : List Nat) (N : List Str) (cl : List (Str × Addr)) (tgt : Tgt) (elt : Expr) (ifs : List Expr) (δ : List Slot) (F : PyData → Option PyData) (d : PyData) : Prop :=
  ∃ δ', asgD tgt d (compD own cap δ) = some δ' ∧ (∀ f s3 H3, VTs (cxComp X sc N cl f s3 H3) ifs δ' (F d).isSome) ∧ ∀ r, F d = some r → ∀ f s3 H3, VE (cxComp X sc N cl f s3 H3) elt δ' r
def teC (X : Cx) (sc : Scope) (N : List Str) (cl : List (Str × Addr)) (elt : Expr) : TE := fun σ H Q => ∀ f s3 H3, cE (cxComp X sc N cl f s3 H3) elt σ H Q
def tcC (X : Cx) (sc : Scope) (N : List Str) (cl : List (Str × Addr)) (ifs : List Expr) : TT := fun σ H Q => ∀ f s3 H3, cTs (cxComp X sc N cl f s3 H3) ifs σ H Q
theorem block_turns {F : PyData → Option PyData} (ht : tgtIn own.length tgt = true) (hz : ds.length ≤ sizeLine) (step : ∀ d ∈ ds, BlockD X sc own cap N cl tgt elt ifs δ F d) {J : It} {B0 B H0 H : Hp} {σ : St} {Q : VK} (f : FrD X.K B0 B H0 H σ δ) (it : ItD X.K J H0 ds)
    (q : ∀ p xs H0' H', Grow H0 H H0' H' → H p = none → H0' p = none → H' p = some (.lst xs) → Reps X.K H0' xs (ds.filterMap F) → Q (.ref p) H') :
    CompTurns J (gOf X.K tgt) (tcC X sc N cl ifs) (teC X sc N cl elt) (compSt own cap σ) H Q := by
  intro D hD
  have hBD : B D = none := f.ent.big.free hD
  refine ⟨fun i m ys σ' H' => i ≤ ds.length ∧ m = ds.length - i ∧ ys.length ≤ i ∧ ∃ Ha, Grow H0 H Ha H' ∧ FrD X.K B0 B Ha H' σ' (compD own cap δ) ∧ Ha D = none ∧ H' D = some (.lst ys) ∧ Reps X.K Ha ys ((ds.take i).filterMap F),
    ⟨ds.length, Nat.zero_le _, rfl, Nat.le_refl _, H0, .loose f.sub hD, (f.comp own cap).touch (f.sub.free hD) hBD compD_noOwn, f.sub.free hD, upd_same, by simpa using Reps.nil⟩, ?_⟩
  rintro i m ys σ' H' ⟨hi, rfl, hy, Ha, g, fa, hDa, hDl, rs⟩
  obtain ⟨i1, i2, i3⟩ := it Ha H' g.sml g.sub i
  by_cases hlt : i < ds.length
  · refine .inr ⟨i1 hlt, fun x H2 y => ?_⟩
    have hd : ds[i]? = some ds[i] := by simp [hlt]
    obtain ⟨Hb, g2, rx⟩ := i3 x H2 ds[i] hd y
    obtain ⟨δ', e1, e2, e3⟩ := step ds[i] (List.getElem_mem hlt)
    obtain ⟨k1, k2⟩ := comp_back ht e1
    have noD : ∀ {Hx Hy : Hp}, Grow Ha H' Hx Hy → Hx D = none := fun {Hx Hy} gg => by
      cases e : Hx D with
      | none => rfl
      | some o =>
        rcases gg.new D (by rw [e]; simp) with z | z
        · exact absurd hDa z
        · rw [hDl] at z; cases z
    have tk : (ds.take (i + 1)).filterMap F = (ds.take i).filterMap F ++ (F ds[i]).toList := by
      rw [List.take_add_one, hd, List.filterMap_append]
      cases eF : F ds[i] <;> simp [List.filterMap_cons, eF]
    refine asg_ok (fa.grow g2) rx e1 fun σ3 f3 => ?_
    intro fp s3 H3
    refine e2 fp s3 H3 B0 B σ3 Hb H2 _ f3 fun Hc H4 g4 => ?_
    have g24 := g2.trans g4
    cases eF : F ds[i] with
    | none =>
      rw [show (none : Option PyData).isSome = false from rfl, if_neg Bool.false_ne_true]
      refine ⟨ds.length - (i + 1), by omega, hlt, rfl, by omega, Hc, g.trans g24, (f3.grow g4).forget k1.symm k2, noD g24, g24.big _ _ hDl, ?_⟩
      rw [tk, eF]
      simpa using rs.mono g24.sml
    | some r =>
      rw [show (some r : Option PyData).isSome = true from rfl, if_pos rfl]
      intro fp' s3' H3'
      refine e3 r eF fp' s3' H3' B0 B σ3 Hc H4 _ (f3.grow g4) fun w Hd H5 g5 r5 => ?_
      have g25 := g24.trans g5
      have hD5 : Hd D = none := noD g25
      refine ⟨g25.big _ _ hDl, by omega, ds.length - (i + 1), by omega, hlt, rfl, by simp; omega, Hd, ?_, ((f3.grow g4).grow g5 |>.forget k1.symm k2).touch hD5 hBD compD_noOwn, hD5, upd_same, ?_⟩
      · have gg := g.trans g25
        exact ⟨fun b u e => by rw [upd_ne (ne_of_none e hD)]; exact gg.big b u e, gg.sml, fun b u e => by rw [upd_ne (ne_of_none e hD5)]; exact gg.sub b u e, gg.new⟩
      · rw [tk, eF]
        exact (rs.mono g25.sml).append (.cons r5 .nil)
  · have e : i = ds.length := by omega
    subst e
    refine .inl ⟨i2 (Nat.le_refl _), q D ys Ha H' g hD hDa hDl ?_⟩
    simpa using rs
theorem vo_comp {F : PyData → Option PyData} (hc : X.calm = true) (CS : CompScope X sc own cap N cl) (hi : VI X tg iter δ ds) (hg : ∀ f s3 H3, PG (cxComp X sc N cl f s3 H3) tg (gOf X.K tgt)) (ht : tgtIn own.length tgt = true) (hz : ds.length ≤ sizeLine)
    (step : ∀ d ∈ ds, BlockD X sc own cap N cl tgt elt ifs δ F d) (hs : ∀ x, foldedSetIterable iter X.env x = pure x := by intro _; rfl) : VO X (.ListComp elt [⟨tg, iter, ifs, 0⟩] sc pos) δ (ds.filterMap F) := by
  obtain ⟨wi, pi, qi⟩ := hi
  refine .of (pe_comp (tc := tcC X sc N cl ifs) (te := teC X sc N cl elt) hc CS pi hg (fun f s3 H3 pins s σ H Q I h => h f s3 H3 pins s I) (fun f s3 H3 pins s σ H Q I h => h f s3 H3 pins s I) hs) fun B0 B σ H0 H Q f q => ?_
  refine qi B0 B σ H0 H _ f fun J H1 H1' g it => ?_
  exact block_turns ht hz step (f.grow g) it fun p xs Ha Hb g2 a1 a2 a3 a4 => q p xs Ha Hb (g.trans g2) (g.big.free a1) a2 a3 a4
end

/-! statements -/
inductive Out where
  | nx (δ : List Slot) | bk (δ : List Slot) | ct (δ : List Slot)
  | rt (d : PyData) | ro (ds : List PyData) | r2 (ds : List PyData) (d : PyData)
def OutK (K : PySem.W.Frag) (B0 B H0 : Hp) (D : Ends) : Out → Prop
  | .nx δ => ∀ σ' H0' H', Same H0 H0' → FrD K B0 B H0' H' σ' δ → D.nx σ' H'
  | .bk δ => ∀ σ' H0' H', Same H0 H0' → FrD K B0 B H0' H' σ' δ → D.bk σ' H'
  | .ct δ => ∀ σ' H0' H', Same H0 H0' → FrD K B0 B H0' H' σ' δ → D.ct σ' H'
  | .rt d => ∀ v H0' H', Grow B0 B H0' H' → Rep K H0' v d → D.rt v H'
  | .ro ds => ∀ p xs H0' H', Grow B0 B H0' H' → B p = none → H0' p = none → H' p = some (.lst xs) → Reps K H0' xs ds → D.rt (.ref p) H'
  | .r2 ds d => ∀ t p xs v H0' H', Grow B0 B H0' H' → B p = none → H0' p = none → H' p = some (.lst xs) → Reps K H0' xs ds → B t = none → H0' t = none → H' t = some (.tup [.ref p, v]) → Rep K H0' v d → D.rt (.ref t) H'
def isRet : Out → Bool
  | .rt _ => true | .ro _ => true | .r2 _ _ => true | _ => false
theorem OutK.mono {K : PySem.W.Frag} {B0 B H0 H0' : Hp} {D : Ends} (s : Same H0 H0') : ∀ {o : Out}, OutK K B0 B H0 D o → OutK K B0 B H0' D o
  | .nx _, h => fun σ a b s' f => h σ a b (s.trans s') f
  | .bk _, h => fun σ a b s' f => h σ a b (s.trans s') f
  | .ct _, h => fun σ a b s' f => h σ a b (s.trans s') f
  | .rt _, h => h
  | .ro _, h => h
  | .r2 _ _, h => h
theorem OutK.ret {K : PySem.W.Frag} {B0 B H0 H0' : Hp} {D D' : Ends} (e : D.rt = D'.rt) : ∀ {o : Out}, isRet o = true → OutK K B0 B H0 D o → OutK K B0 B H0' D' o
  | .rt _, _, h => by unfold OutK at *; rw [← e]; exact h
  | .ro _, _, h => by unfold OutK at *; rw [← e]; exact h
  | .r2 _ _, _, h => by unfold OutK at *; rw [← e]; exact h
  | .nx _, z, _ => by cases z
  | .bk _, z, _ => by cases z
  | .ct _, z, _ => by cases z
def VS (X : Cx) (st : Stmt) (δ : List Slot) (o : Out) : Prop := ∀ B0 B σ H0 H D, FrD X.K B0 B H0 H σ δ → OutK X.K B0 B H0 D o → cS X st D σ H
def VSs (X : Cx) (st : List Stmt) (δ : List Slot) (o : Out) : Prop := ∀ B0 B σ H0 H D, FrD X.K B0 B H0 H σ δ → OutK X.K B0 B H0 D o → cSs X st D σ H
section
variable {X : Cx} {st : Stmt} {rest body orelse : List Stmt} {δ δ' : List Slot} {o : Out} {a b c e : Expr} {d : PyData} {ds : List PyData} {pos px : Pos} {x : Str}
theorem vss_nil : VSs X [] δ (.nx δ) := fun _ _ σ H0 H _ f ok pins s I => pss_nil pins s σ H _ I (ok σ H0 H (Same.refl _) f)
theorem vss_cons (h1 : VS X st δ (.nx δ')) (h2 : VSs X rest δ' o) : VSs X (st :: rest) δ o := fun B0 B σ H0 H D f ok pins s I =>
  pss_cons ps_c pss_c pins s σ H D I (h1 B0 B σ H0 H _ f fun σ' Ha Hb sm f' => h2 B0 B σ' Ha Hb D f' (ok.mono sm))
theorem vss_ret (h1 : VS X st δ o) (hr : isRet o = true) : VSs X (st :: rest) δ o := fun B0 B σ H0 H D f ok pins s I =>
  pss_cons ps_c pss_never pins s σ H D I (h1 B0 B σ H0 H _ f (OutK.ret (D := D) (by rfl) hr ok))
theorem vss_one (h1 : VS X st δ o) : VSs X [st] δ o := fun B0 B σ H0 H D f ok pins s I => pss_one ps_c pins s σ H D I (h1 B0 B σ H0 H D f ok)
theorem vs_set (i : Nat) (h : VE X e δ d) (hN : X.N.Nodup) (hi : X.N[i]? = some x := by rfl) (hx : Loc X.env.scope x := by first | exact Or.inl rfl | exact Or.inr rfl) (hs : swapsWith e (some (.Name x px)) pos.line X.env = pure false := by rfl) (hf : X.fn x = true ∨ X.env.scope.names.lookup x = some .local := by first | exact .inl rfl | exact .inr rfl) :
    VS X (.Assign [.Name x px] e pos) δ (.nx (δ.set i (.val d))) := fun B0 B σ H0 H D f ok pins s I =>
  ps_set (i := i) hN hi hx pe_c hs hf pins s σ H D I (h B0 B σ H0 H _ f fun v H1 H1' g r => ok _ H1 H1' g.sml ((f.grow g).set r))
theorem vs_setO (i : Nat) (h : VO X e δ ds) (hN : X.N.Nodup) (hi : X.N[i]? = some x := by rfl) (hx : Loc X.env.scope x := by first | exact Or.inl rfl | exact Or.inr rfl) (hs : swapsWith e (some (.Name x px)) pos.line X.env = pure false := by rfl) (hf : X.fn x = true ∨ X.env.scope.names.lookup x = some .local := by first | exact .inl rfl | exact .inr rfl) :
    VS X (.Assign [.Name x px] e pos) δ (.nx (δ.set i (.own ds))) := fun B0 B σ H0 H D f ok pins s I =>
  ps_set (i := i) hN hi hx pe_c hs hf pins s σ H D I (h B0 B σ H0 H _ f fun p xs H1 H1' g h1 h2 h3 r => ok _ H1 H1' g.sml ((f.grow g).setOwn h3 h2 (f.ent.big.free h1) r fun j es e2 e3 => by
    obtain ⟨p', xs', g1, g2, _⟩ := f.slot j _ e2
    rw [e3] at g1
    cases g1
    rw [h1] at g2; cases g2))
theorem vs_ifT (h : VT X c δ true) (h1 : VSs X body δ o) : VS X (.If c body orelse pos) δ o := fun B0 B σ H0 H D f ok pins s I =>
  ps_if pt_c pss_c pss_never pins s σ H D I (h B0 B σ H0 H _ f fun H1 H1' g => iteT (h1 B0 B σ H1 H1' D (f.grow g) (ok.mono g.sml)))
theorem vs_ifF (h : VT X c δ false) (h1 : VSs X orelse δ o) : VS X (.If c body orelse pos) δ o := fun B0 B σ H0 H D f ok pins s I =>
  ps_if pt_c pss_never pss_c pins s σ H D I (h B0 B σ H0 H _ f fun H1 H1' g => iteF (h1 B0 B σ H1 H1' D (f.grow g) (ok.mono g.sml)))
/-- either way -/
theorem vs_if {k : Bool} (h : VT X c δ k) (h1 : k = true → VSs X body δ o) (h2 : k = false → VSs X orelse δ o) : VS X (.If c body orelse pos) δ o := by
  cases k with
  | true => exact vs_ifT h (h1 rfl)
  | false => exact vs_ifF h (h2 rfl)
theorem vs_ret (h : VE X e δ d) : VS X (.Return (some e) pos) δ (.rt d) := fun B0 B σ H0 H D f ok pins s I => ps_ret pe_c pins s σ H D I (h B0 B σ H0 H _ f fun v H1 H1' g r => ok v H1 H1' (f.ent.trans g) r)
theorem vs_retO (h : VO X e δ ds) : VS X (.Return (some e) pos) δ (.ro ds) := fun B0 B σ H0 H D f ok pins s I => ps_ret pe_c pins s σ H D I (h B0 B σ H0 H _ f fun p xs H1 H1' g a1 a2 a3 a4 => ok p xs H1 H1' (f.ent.trans g) (f.ent.big.free a1) a2 a3 a4)
theorem vs_retV (i : Nat) (h : δ[i]? = some (.own ds)) (hN : X.N[i]? = some x := by rfl) (hv : Vis X.env.scope x := by first | exact Or.inl rfl | exact Or.inr (Or.inl rfl) | exact Or.inr (Or.inr rfl)) (hd : (x == ("__debug__" : Str)) = false := by decide) (hcd : (x == ("__classdict__" : Str)) = false := by decide) :
    VS X (.Return (some (.Name x px)) pos) δ (.ro ds) := fun B0 B σ H0 H D f ok pins s I => ps_ret (pe_var hN hv hd hcd) pins s σ H D I (by
  obtain ⟨p, xs, h1, h2, h3, h4, h5⟩ := f.slot i _ h
  exact ⟨_, h1, ok p xs H0 H f.ent h4 h3 h2 h5⟩)
/-- a tuple of a new list and data -/
def V2 (X : Cx) (e : Expr) (δ : List Slot) (ds : List PyData) (d : PyData) : Prop := ∀ B0 B σ H0 H Q, FrD X.K B0 B H0 H σ δ →
  (∀ t p xs v H0' H', Grow H0 H H0' H' → H p = none → H0' p = none → H' p = some (.lst xs) → Reps X.K H0' xs ds → H t = none → H0' t = none → H' t = some (.tup [.ref p, v]) → Rep X.K H0' v d → Q (.ref t) H') → cE X e σ H Q
theorem v2_tup {x1} (h1 : VO X a δ ds) (h2 : VE X b δ d) (hs : starEach [a, b] X.env = (false, eval a X.env) :: starEach [b] X.env := by rfl) (hs2 : starEach [b] X.env = (false, eval b X.env) :: starEach [] X.env := by rfl) : V2 X (.Tuple [a, b] x1 pos) δ ds d := fun B0 B σ H0 H Q f q pins s I =>
  pe_tup (pa_cons pe_c (pa_cons pe_c pa_nil hs2) hs) pins s σ H Q I (h1 B0 B σ H0 H _ f fun p xs H1 H1' g a1 a2 a3 a4 => h2 B0 B σ H1 H1' _ (f.grow g) fun v H2 H2' g2 r => ⟨by show 2 ≤ sizeLine; rw [sizeLine_eq]; decide, fun t ht => by
    have gg := g.trans g2
    have hp2 : H2 p = none := by
      cases e : H2 p with
      | none => rfl
      | some o =>
        rcases g2.new p (by rw [e]; simp) with z | z
        · exact absurd a2 z
        · rw [a3] at z; cases z
    have ntp : p ≠ t := ne_of_none (g2.big _ _ a3) ht
    exact q t p xs v H2 _ (gg.trans (.loose g2.sub ht)) a1 hp2 (by rw [upd_ne ntp]; exact g2.big _ _ a3) (a4.mono g2.sml) (gg.big.free ht) (g2.sub.free ht) upd_same r⟩)
theorem vs_ret2 (h : V2 X e δ ds d) : VS X (.Return (some e) pos) δ (.r2 ds d) := fun B0 B σ H0 H D f ok pins s I => ps_ret pe_c pins s σ H D I (h B0 B σ H0 H _ f fun t p xs v H1 H1' g a1 a2 a3 a4 a5 a6 a7 a8 =>
  ok t p xs v H1 H1' (f.ent.trans g) (f.ent.big.free a1) a2 a3 a4 (f.ent.big.free a5) a6 a7 a8)
/-- xs.append(e), xs one's own -/
theorem vs_append (i : Nat) {ap : Pos} {p0 : Pos} (hi : δ[i]? = some (.own ds)) (h : VE X e δ d) (hz : ds.length < sizeLine) (hN : X.N[i]? = some x := by rfl) (hv : Vis X.env.scope x := by first | exact Or.inl rfl | exact Or.inr (Or.inl rfl) | exact Or.inr (Or.inr rfl)) (hd : (x == ("__debug__" : Str)) = false := by decide) (hcd : (x == ("__classdict__" : Str)) = false := by decide)
    (hs : starEach [e] X.env = (false, eval e X.env) :: starEach [] X.env := by rfl) (hbase : attributeBase (.Name x p0) "append" X.env (eval (.Name x p0) X.env) = eval (.Name x p0) X.env := by rfl)
    (hfew : ((backTo px (starEach [e] X.env)).all (fun x => !x.1) && (backToKw px (keywordEach [] X.env)).all (fun x => x.1.isSome) && decide (([e] : List Expr).length + ([] : List Keyword).length + (if ([] : List Keyword).isEmpty then 0 else 1) < 30)) = true := by rfl)
    (hline : (ap.endLine == px.line) = true := by rfl) (hplain : (backTo px (starEach [] X.env)).any (·.1) = false := by rfl) (hsw : swapsWith (.Call (.Attribute (.Name x p0) "append" ap) [e] [] px) none pos.line X.env = pure false := by rfl) :
    VS X (.Expr (.Call (.Attribute (.Name x p0) "append" ap) [e] [] px) pos) δ (.nx (δ.set i (.own (ds ++ [d])))) := fun B0 B σ H0 H D f ok pins s I => by
  refine ps_expr (pe_bm PySem.F.plainAttrs_list PySem.F.slot_list_append PySem.F.type_list_append mt_append (pe_var hN hv hd hcd) (pa_cons pe_c pa_nil hs) hbase hfew hline hs hplain) hsw pins s σ H D I ?_
  obtain ⟨p, xs, h1, h2, h3, h4, h5⟩ := f.slot i _ hi
  refine ⟨_, h1, .inl ⟨rfl, _, SqL.of h2⟩, ?_⟩
  refine h B0 B σ H0 H _ f fun v H1 H1' g r => ?_
  refine ⟨p, xs, v, rfl, rfl, g.big _ _ h2, by rw [h5.length]; exact hz, ok σ H1 _ g.sml ((f.grow g).push hi h1 (g.big _ _ h2) r)⟩
/-- a name's own list becomes data -/
theorem vss_freeze (i : Nat) (hi : δ[i]? = some (.own ds)) (h : VSs X rest (δ.set i (.val (.list ds))) o) : VSs X rest δ o := fun B0 B σ H0 H D f ok => by
  obtain ⟨p, xs, h1, h2, h3, h4, h5⟩ := f.slot i _ hi
  obtain ⟨f', sm⟩ := f.freeze hi h1 h2
  exact h B0 B σ _ H D f' (ok.mono sm)

/-- names may be forgotten behind a statement -/
def Fgt : List Slot → List Slot → Prop
  | [], [] => True
  | a :: l, b :: m => (b = .un ∨ a = b) ∧ Fgt l m
  | _, _ => False
theorem Fgt.len : ∀ {l m : List Slot}, Fgt l m → m.length = l.length
  | [], [], _ => rfl
  | _ :: _, _ :: _, h => by simp [Fgt.len h.2]
  | [], _ :: _, h => h.elim
  | _ :: _, [], h => h.elim
theorem Fgt.at : ∀ {l m : List Slot}, Fgt l m → ∀ (i : Nat) sl, m[i]? = some sl → sl = .un ∨ l[i]? = some sl
  | [], [], _, _, _, e => by simp at e
  | a :: l, b :: m, h, 0, sl, e => by
    simp at e
    subst e
    rcases h.1 with z | z
    · exact .inl z
    · exact .inr (by simp [z])
  | a :: l, b :: m, h, i + 1, sl, e => by simpa using Fgt.at h.2 i sl (by simpa using e)
  | [], _ :: _, h, _, _, _ => h.elim
  | _ :: _, [], h, _, _, _ => h.elim
theorem vss_out {δ2 : List Slot} (h : VSs X rest δ (.nx δ')) (hf : Fgt δ' δ2) : VSs X rest δ (.nx δ2) := fun B0 B σ H0 H D f ok => h B0 B σ H0 H D f fun σ' Ha Hb sm f' => ok σ' Ha Hb sm (f'.forget hf.len hf.at)

/-! loops -/
theorem vs_for {tg iter : Expr} {tgt : Tgt} (hp : PassesOwn (model X.prog X.w) X.A X.env X.xe) (hc : X.calm = true) (hi : VI X tg iter δ ds) (hg : PG X tg (gOf X.K tgt)) (δs : Nat → List Slot) (m : Nat) (h0 : δs 0 = δ) (hm : m ≤ ds.length)
    (step : ∀ k d, k < m → ds[k]? = some d → ∃ δ', asgD tgt d (δs k) = some δ' ∧ VSs X body δ' (.nx (δs (k + 1))))
    (fin : (m = ds.length ∧ o = .nx (δs m)) ∨ ∃ d δ', ds[m]? = some d ∧ asgD tgt d (δs m) = some δ' ∧ isRet o = true ∧ VSs X body δ' o)
    (hs : ∀ x, foldedSetIterable iter X.env x = pure x := by intro _; rfl) : VS X (.For tg iter body [] pos) δ o := fun B0 B σ H0 H D f ok pins s I => by
  obtain ⟨wi, pi, qi⟩ := hi
  refine ps_for hp hc pi hg pss_c hs pins s σ H D I ?_
  refine qi B0 B σ H0 H _ f fun J H1 H1' g it => ?_
  refine ⟨fun i mm σ' H' => i ≤ m ∧ mm = m + 1 - i ∧ ∃ Ha, Same H1 Ha ∧ FrD X.K B0 B Ha H' σ' (δs i), ⟨m + 1, Nat.zero_le _, rfl, H1, Same.refl _, by rw [h0]; exact f.grow g⟩, ?_⟩
  rintro i mm σ' H' ⟨hi, rfl, Ha, sm, fa⟩
  obtain ⟨i1, i2, i3⟩ := it Ha H' sm fa.sub i
  by_cases hlt : i < m
  · refine .inr ⟨i1 (by omega), fun σ'' H'' => ∃ Hb, Same H1 Hb ∧ FrD X.K B0 B Hb H'' σ'' (δs (i + 1)), fun σ'' H'' ⟨Hb, z1, z2⟩ => ⟨m + 1 - (i + 1), by omega, hlt, rfl, Hb, z1, z2⟩, fun v H2 y => ?_⟩
    have hd : ds[i]? = some (ds[i]'(by omega)) := by simp
    obtain ⟨Hb, g2, rx⟩ := i3 v H2 _ hd y
    obtain ⟨δ', e1, e2⟩ := step i _ hlt hd
    refine asg_ok (fa.grow g2) rx e1 fun σ3 f3 => ?_
    exact e2 B0 B σ3 Hb H2 _ f3 fun σ4 Hc H4 s4 f4 => ⟨Hc, (sm.trans g2.sml).trans s4, f4⟩
  · have e : i = m := by omega
    subst e
    rcases fin with ⟨e1, e2⟩ | ⟨d, δ', hd, e1, hr, e2⟩
    · subst e2
      exact .inl ⟨i2 (by omega), ok σ' Ha H' (g.sml.trans sm) fa⟩
    · have hlt' : i < ds.length := (List.getElem?_eq_some_iff.mp hd).1
      refine .inr ⟨i1 hlt', fun _ _ => False, fun _ _ z => z.elim, fun v H2 y => ?_⟩
      obtain ⟨Hb, g2, rx⟩ := i3 v H2 _ hd y
      refine asg_ok (fa.grow g2) rx e1 fun σ3 f3 => ?_
      exact e2 B0 B σ3 Hb H2 _ f3 (OutK.ret (D := D) (by rfl) hr ok)
theorem vs_while (hp : PassesOwn (model X.prog X.w) X.A X.env X.xe) (δs : Nat → List Slot) (m : Nat) (h0 : δs 0 = δ) (ht : ∀ k, k < m → VT X c (δs k) true) (hb : ∀ k, k < m → VSs X body (δs k) (.nx (δs (k + 1)))) (hf : VT X c (δs m) false) :
    VS X (.While c body [] pos) δ (.nx (δs m)) := fun B0 B σ H0 H D f ok pins s I => by
  refine ps_while hp pt_c pss_c pins s σ H D I ?_
  refine ⟨fun mm σ' H' => ∃ i Ha, i ≤ m ∧ mm = m - i ∧ Same H0 Ha ∧ FrD X.K B0 B Ha H' σ' (δs i), ⟨m, 0, H0, Nat.zero_le _, rfl, Same.refl _, by rw [h0]; exact f⟩, ?_⟩
  rintro mm σ' H' ⟨i, Ha, hi, rfl, sm, fa⟩
  by_cases hlt : i < m
  · refine ht i hlt B0 B σ' Ha H' _ fa fun Hb H2 g => ?_
    refine iteT ⟨fun σ'' H'' => ∃ Hb, Same H0 Hb ∧ FrD X.K B0 B Hb H'' σ'' (δs (i + 1)), fun σ'' H'' ⟨Hb, z1, z2⟩ => ⟨m - (i + 1), by omega, i + 1, Hb, hlt, rfl, z1, z2⟩, ?_⟩
    exact hb i hlt B0 B σ' Hb H2 _ (fa.grow g) fun σ4 Hc H4 s4 f4 => ⟨Hc, (sm.trans g.sml).trans s4, f4⟩
  · have e : i = m := by omega
    subst e
    refine hf B0 B σ' Ha H' _ fa fun Hb H2 g => iteF (ok σ' Hb H2 (sm.trans g.sml) (fa.grow g))
end

/-! defs -/
def spD (K : PySem.W.Frag) (R : List PyData → PyData → Prop) : Sp := fun vs H Q _ => ∃ H0 ds d, Same H0 H ∧ Reps K H0 vs ds ∧ R ds d ∧ ∀ v H0' H', Grow H0 H H0' H' → Rep K H0' v d → Q v H'
def spO (K : PySem.W.Frag) (R : List PyData → List PyData → Prop) : Sp := fun vs H Q _ => ∃ H0 ds es, Same H0 H ∧ Reps K H0 vs ds ∧ R ds es ∧
  ∀ p xs H0' H', Grow H0 H H0' H' → H p = none → H0' p = none → H' p = some (.lst xs) → Reps K H0' xs es → Q (.ref p) H'
def sp2 (K : PySem.W.Frag) (R : List PyData → List PyData → PyData → Prop) : Sp := fun vs H Q _ => ∃ H0 ds es d, Same H0 H ∧ Reps K H0 vs ds ∧ R ds es d ∧
  ∀ t p xs v H0' H', Grow H0 H H0' H' → H p = none → H0' p = none → H' p = some (.lst xs) → Reps K H0' xs es → H t = none → H0' t = none → H' t = some (.tup [.ref p, v]) → Rep K H0' v d → Q (.ref t) H'
/-- a def of the text that may be called by its name -/
def Callable (P : Program) (w : World) (K : PySem.W.Frag) (mg : Str → Option Value) (base : Heap) (k : Nat) (x : Str) (ps : List Str) (sp : Sp) : Prop :=
  ∃ f fd, FnOk P w K mg base CX0 k f fd ps sp ∧ mg x = some (.ref f) ∧ PySem.W.keepIn K (.ref f) = true ∧ Binds K fd ps []
section
variable {X : Cx} {x : Str} {e : Expr} {es : List Expr} {δ : List Slot} {ds zs : List PyData} {d : PyData} {p pos : Pos} {k : Nat} {ps : List Str}
theorem ve_call {R : List PyData → PyData → Prop} (C : Callable X.prog X.w X.K X.mg X.base k x ps (spD X.K R)) (hr : Room k X.A) (ha : VA X (e :: es) δ ds) (hp : R ds d) (hg : Gl X x := by rfl) (hdb : (x == ("__debug__" : Str)) = false := by decide)
    (he : starEach (e :: es) X.env = (false, eval e X.env) :: starEach es X.env := by rfl) (hpl : (backTo pos (starEach es X.env)).any (·.1) = false := by rfl) : VE X (.Call (.Name x p) (e :: es) [] pos) δ d := by
  obtain ⟨f, fd, F, hm, hk, hb⟩ := C
  obtain ⟨t, pa, qa⟩ := ha
  exact .of (pe_call F hr hg hm hk hb .nil pass0 pa hdb he hpl) fun B0 B σ H0 H Q fr q => qa B0 B σ H0 H _ fr fun vs H1 H1' g1 rs => by
    rw [List.append_nil]
    exact ⟨H1, ds, d, g1.sub, rs, hp, fun v H2 H2' g2 r => q v H2 H2' (g1.trans g2) r⟩
theorem vo_call {R : List PyData → List PyData → Prop} (C : Callable X.prog X.w X.K X.mg X.base k x ps (spO X.K R)) (hr : Room k X.A) (ha : VA X (e :: es) δ ds) (hp : R ds zs) (hg : Gl X x := by rfl) (hdb : (x == ("__debug__" : Str)) = false := by decide)
    (he : starEach (e :: es) X.env = (false, eval e X.env) :: starEach es X.env := by rfl) (hpl : (backTo pos (starEach es X.env)).any (·.1) = false := by rfl) : VO X (.Call (.Name x p) (e :: es) [] pos) δ zs := by
  obtain ⟨f, fd, F, hm, hk, hb⟩ := C
  obtain ⟨t, pa, qa⟩ := ha
  exact .of (pe_call F hr hg hm hk hb .nil pass0 pa hdb he hpl) fun B0 B σ H0 H Q fr q => qa B0 B σ H0 H _ fr fun vs H1 H1' g1 rs => by
    rw [List.append_nil]
    exact ⟨H1, ds, zs, g1.sub, rs, hp, fun v xs H2 H2' g2 a1 a2 a3 a4 => q v xs H2 H2' (g1.trans g2) (g1.big.free a1) a2 a3 a4⟩
theorem v2_call {R : List PyData → List PyData → PyData → Prop} (C : Callable X.prog X.w X.K X.mg X.base k x ps (sp2 X.K R)) (hr : Room k X.A) (ha : VA X (e :: es) δ ds) (hp : R ds zs d) (hg : Gl X x := by rfl) (hdb : (x == ("__debug__" : Str)) = false := by decide)
    (he : starEach (e :: es) X.env = (false, eval e X.env) :: starEach es X.env := by rfl) (hpl : (backTo pos (starEach es X.env)).any (·.1) = false := by rfl) : V2 X (.Call (.Name x p) (e :: es) [] pos) δ zs d := by
  obtain ⟨f, fd, F, hm, hk, hb⟩ := C
  obtain ⟨t, pa, qa⟩ := ha
  intro B0 B σ H0 H Q fr q pins s I
  refine pe_call F hr hg hm hk hb .nil pass0 pa hdb he hpl pins s σ H Q I (qa B0 B σ H0 H _ fr fun vs H1 H1' g1 rs => ?_)
  rw [List.append_nil]
  exact ⟨H1, ds, zs, d, g1.sub, rs, hp, fun t v xs u H2 H2' g2 a1 a2 a3 a4 a5 a6 a7 a8 => q t v xs u H2 H2' (g1.trans g2) (g1.big.free a1) a2 a3 a4 (g1.big.free a5) a6 a7 a8⟩
end
def startD (N : List Str) (ds : List PyData) : List Slot := ds.map .val ++ List.replicate (N.length - ds.length) .un
theorem FrD.start {K : PySem.W.Frag} {H0 H : Hp} {N : List Str} {vs : List V} {ds : List PyData} (s : Same H0 H) (r : Reps K H0 vs ds) : FrD K H0 H H0 H (start N vs) (startD N ds) := by
  have hl := r.length
  refine ⟨.refl s, by simp [L2.start, startD, hl], fun i sl e => ?_, fun i j a b p _ e => ?_⟩
  · unfold startD at e
    unfold L2.start
    by_cases hi : i < ds.length
    · rw [List.getElem?_append_left (by simpa using hi), List.getElem?_map] at e
      have hd : ds[i]? = some ds[i] := by simp [hi]
      rw [hd] at e
      cases e
      obtain ⟨v, h1, h2⟩ := r.get hd
      exact ⟨v, by rw [List.getElem?_append_left (by simp; omega), List.getElem?_map, h1]; rfl, h2⟩
    · rw [List.getElem?_append_right (by simpa using Nat.le_of_not_lt hi), List.getElem?_replicate] at e
      split at e <;> cases e
      trivial
  · unfold startD at e
    by_cases hi : i < ds.length
    · rw [List.getElem?_append_left (by simpa using hi), List.getElem?_map] at e
      have hd : ds[i]? = some ds[i] := by simp [hi]
      rw [hd] at e
      cases e
    · rw [List.getElem?_append_right (by simpa using Nat.le_of_not_lt hi), List.getElem?_replicate] at e
      split at e <;> cases e
section
variable {P : Program} {w : World} {K : PySem.W.Frag} {mg : Str → Option Value} {base : Heap} {x qual : Str} {st : Stmt} {f : Addr} {fd : FuncData} {N ps : List Str} {k : Nat}
/-- the body of a def, at every entry -/
abbrev BodyD (P : Program) (w : World) (K : PySem.W.Frag) (mg : Str → Option Value) (base : Heap) (N : List Str) (qual : Str) (st : Stmt) (f : Addr) (k : Nat) (ds : List PyData) (o : Out) : Prop :=
  ∀ cdv A outer s H E, Room k (A.deeper (envOfC qual (defScope st) s.heap.objs.size f cdv)) → VSs (cxOf CX0 P w K mg base N qual (defScope st) f cdv A outer s H E).nox (defBody st) (startD N ds) o
theorem fn_D {R : List PyData → PyData → Prop} (F : Fun K x qual st f fd) (S : FnScope N ps (defScope st)) (hl : ∀ ds d, R ds d → ds.length = ps.length) (hb : ∀ ds d, R ds d → BodyD P w K mg base N qual st f k ds (.rt d)) : FnOk P w K mg base CX0 (k + 1) f fd ps (spD K R) := by
  refine F.ok S (fun vs H Q E h => ?_) (fun cdv A outer s H vs Q E hr h => ?_)
  · obtain ⟨H0, ds, d, _, r, hp, _⟩ := h
    rw [r.length, hl ds d hp]
  · obtain ⟨H0, ds, d, sm, r, hp, q⟩ := h
    exact ⟨_, pss_c, hb ds d hp cdv A outer s H E hr H0 H _ H0 H _ (.start sm r) q⟩
theorem fn_O {R : List PyData → List PyData → Prop} (F : Fun K x qual st f fd) (S : FnScope N ps (defScope st)) (hl : ∀ ds d, R ds d → ds.length = ps.length) (hb : ∀ ds d, R ds d → BodyD P w K mg base N qual st f k ds (.ro d)) : FnOk P w K mg base CX0 (k + 1) f fd ps (spO K R) := by
  refine F.ok S (fun vs H Q E h => ?_) (fun cdv A outer s H vs Q E hr h => ?_)
  · obtain ⟨H0, ds, d, _, r, hp, _⟩ := h
    rw [r.length, hl ds d hp]
  · obtain ⟨H0, ds, d, sm, r, hp, q⟩ := h
    exact ⟨_, pss_c, hb ds d hp cdv A outer s H E hr H0 H _ H0 H _ (.start sm r) q⟩
theorem fn_2 {R : List PyData → List PyData → PyData → Prop} (F : Fun K x qual st f fd) (S : FnScope N ps (defScope st)) (hl : ∀ ds es d, R ds es d → ds.length = ps.length) (hb : ∀ ds es d, R ds es d → BodyD P w K mg base N qual st f k ds (.r2 es d)) : FnOk P w K mg base CX0 (k + 1) f fd ps (sp2 K R) := by
  refine F.ok S (fun vs H Q E h => ?_) (fun cdv A outer s H vs Q E hr h => ?_)
  · obtain ⟨H0, ds, es, d, _, r, hp, _⟩ := h
    rw [r.length, hl ds es d hp]
  · obtain ⟨H0, ds, es, d, sm, r, hp, q⟩ := h
    exact ⟨_, pss_c, hb ds es d hp cdv A outer s H E hr H0 H _ H0 H _ (.start sm r) q⟩
end
end L2

set_option Elab.async false
set_option linter.all false
set_option maxRecDepth 100000
set_option maxHeartbeats 4000000
/-! ### a block with one cell of its own -/
namespace L2
open PySem PySem.Spec PyProof.Rows PySem.W
theorem no2 {n : Nat} : ¬ n + 1 + 1 < n := by omega
theorem no3 {n : Nat} : n < n + 1 + 1 := by omega
def cxComp1 (X : Cx) (sc : Scope) (N : List Str) (cl : List (Str × Addr)) (x0 : Str) (fp : List Addr) (s : Shared) (H : Hp) : Cx :=
  { cxComp X sc N ((x0, s.heap.objs.size + 1) :: cl) fp s H with fn := fun x => x == x0 }
structure CompScope1 (X : Cx) (sc : Scope) (own : List Str) (cap : List Nat) (N : List Str) (cl : List (Str × Addr)) (x0 : Str) : Prop where
  kind : sc.kind = .function
  onec : ∀ y ∈ sc.names, y.2 = NameKind.cell → y.1 = x0
  loc : ∀ y ∈ sc.names, y.2 = .local → sc.names.lookup y.1 = some .local
  clos : closL X.env sc.names [] = some cl
  names : N = own ++ cap.map fun i => X.N.getD i Str.empty
  capOk : ∀ i ∈ cap, i < X.N.length ∧ (X.env.kindOf (X.N.getD i Str.empty) = some .cell ∨ X.env.kindOf (X.N.getD i Str.empty) = some .free) ∧ sc.names.lookup (X.N.getD i Str.empty) = some .free
  xc : sc.names.lookup x0 = some .cell
  cf : ∀ n, cellsFrom n sc.names cl = (x0, n) :: cl
theorem relabel_mem1 {env : Env} {x0 : Str} : ∀ {names : List (Str × NameKind)} {x : Str}, (∀ y ∈ names, y.2 = NameKind.cell → y.1 = x0) →
    ((names.map fun (n, k) => if (k == NameKind.free && env.scope.kind == .function && env.kindOf n == some .cell) then (n, NameKind.cell) else (n, k)).lookup x = some .cell ∨
      (names.map fun (n, k) => if (k == NameKind.free && env.scope.kind == .function && env.kindOf n == some .cell) then (n, NameKind.cell) else (n, k)).lookup x = some .free) → x = x0 ∨ (x, NameKind.free) ∈ names
  | [], x, _, h => by simp at h
  | (n, k) :: r, x, hc, h => by
    have ih := @relabel_mem1 env x0 r x fun y hy => hc y (List.mem_cons_of_mem _ hy)
    have hk0 : k = NameKind.cell → n = x0 := hc (n, k) List.mem_cons_self
    rw [List.map_cons] at h
    dsimp only at h
    by_cases hb : (k == NameKind.free && env.scope.kind == .function && env.kindOf n == some .cell) = true
    · have hk : k = NameKind.free := by
        simp only [Bool.and_eq_true] at hb
        simpa using hb.1.1
      rw [if_pos hb] at h
      cases hx : x == n with
      | true =>
        have : x = n := by simpa using hx
        subst this
        rw [hk]
        exact .inr List.mem_cons_self
      | false =>
        simp only [List.lookup_cons, hx] at h
        exact (ih h).imp id (List.mem_cons_of_mem _)
    · rw [if_neg hb] at h
      cases hx : x == n with
      | true =>
        have : x = n := by simpa using hx
        subst this
        simp only [List.lookup_cons, beq_self_eq_true, Option.some.injEq] at h
        rcases h with h | h
        · exact .inl (hk0 h)
        · rw [h]; exact .inr List.mem_cons_self
      | false =>
        simp only [List.lookup_cons, hx] at h
        exact (ih h).imp id (List.mem_cons_of_mem _)
theorem cell1 {sc : Scope} {cl : List (Str × Addr)} {x0 : Str} {h : Heap} (cf : ∀ n, cellsFrom n sc.names cl = (x0, n) :: cl) (names : List (Str × NameKind) := sc.names) (hn : names = sc.names := by rfl) : ∃ v, (pushCells h sc.names).IsCell h.objs.size v := by
  have go : ∀ (names : List (Str × NameKind)) (h : Heap) (n : Nat) (acc : List (Str × Addr)), cellsFrom n names acc ≠ acc → (pushCells h names).IsCell h.objs.size none := by
    intro names
    induction names with
    | nil => intro h n acc z; exact absurd rfl z
    | cons y r ih =>
      intro h n acc z
      obtain ⟨a, b⟩ := y
      unfold cellsFrom at z
      unfold pushCells
      split at z
      · rename_i hb
        rw [if_pos hb]
        exact Heap.IsCell.keeps ⟨_, Heap.get?_push_size _ rfl, rfl⟩ (pushCells_keeps _ _)
      · rename_i hb
        rw [if_neg hb]
        exact ih h n acc z
  refine ⟨none, go sc.names h 0 cl ?_⟩
  rw [cf]
  intro z
  have := congrArg List.length z
  simp at this
theorem wpNew1 {M : Model} {A : Around} {E : Value → Shared → Prop} {s : Shared} {sc : Scope} {g : Addr} {cl : List (Str × Addr)} {x0 : Str} {qual : Str} {env : Env} {Q : Env → Shared → Prop} (cf : ∀ n, cellsFrom n sc.names cl = (x0, n) :: cl)
    (hQ : ∀ h', h'.Ns s.heap.objs.size (fun _ => none) → (∀ b o, s.heap.get? b = some o → h'.get? b = some o) → (∃ v, h'.IsCell (s.heap.objs.size + 1) v) →
      Q { scope := sc, locals := s.heap.objs.size, globals := g, cells := (x0, s.heap.objs.size + 1) :: cl, qual := qual, func := none, code := env.code, frame := env.frame, builtins := env.builtins } { s with heap := h' }) :
    wpAny M A (newFunctionEnv sc g cl [] qual none .none (some env)) Q E s := by
  simp only [newFunctionEnv, Option.isSome_some, if_true]
  refine wpAny_bind (wpAny_alloc ?_)
  refine wpAny_bind (wpAny_layCells _ (fun name kind cells => by cases hkc : kind == NameKind.cell <;> simp [hkc]) _ _ _ _ ?_)
  rw [cf]
  have hz : (s.heap.push { cls := .type "dict", data := .dict #[] }).objs.size = s.heap.objs.size + 1 := Heap.size_push ..
  have hq := hQ (pushCells (s.heap.push { cls := .type "dict", data := .dict #[] }) sc.names) ((Heap.Ns.new s.heap (.type "dict")).keeps (pushCells_keeps _ _)) (fun b o e => pushCells_keeps _ _ b o (Heap.get?_push_of_some _ e)) (by have := cell1 (h := s.heap.push { cls := .type "dict", data := .dict #[] }) cf; rw [hz] at this; exact this)
  rw [hz]
  rw [List.forIn_nil]
  exact wpAny_bind (wpAny_pure (wpAny_pure hq))
section
variable {X : Cx} {pins : List (Addr × Obj)} {σ : St} {H : Hp} {s : Shared} {sc : Scope} {own N : List Str} {cap : List Nat} {cl : List (Str × Addr)} {x0 : Str} {fp : List Addr} {tg elt iter : Expr} {ifs : List Expr} {J : It} {it : Addr} {tn : Nat → Heap → Prop} {g : TG} {tc : TT} {te : TE} {wi : TI} {pos : Pos}
theorem comp_inv1 {h4 : Heap} {t4 : Nat} (CS : CompScope1 X sc own cap N cl x0) (I : Inv X pins σ H s) (T : Turn X.prog X.w X.K tg J fp it tn) (st : tn 0 s.heap) (hf : ∀ b ∈ fp, FpOk X pins H b)
    (D : Addr) (hD : D = s.heap.objs.size) (s3 : Shared) (h3 : s3 = { s with heap := s.heap.push { cls := .type "list", dict := none, data := .seq ([] : List Value).toArray } })
    (hns : h4.Ns s3.heap.objs.size (fun _ => none)) (hk : ∀ b o, s3.heap.get? b = some o → h4.get? b = some o) (hcell : ∃ v, h4.IsCell (s3.heap.objs.size + 1) v) :
    Inv (cxComp1 X sc N cl x0 fp s3 (upd H D (.lst []))) [] (compSt own cap σ) (upd H D (.lst [])) { s3 with heap := h4, toks := t4 } := by
  subst hD
  have hDn : H s.heap.objs.size = none := I.fresh
  have k3 : ∀ b o, s.heap.get? b = some o → s3.heap.get? b = some o := fun b o e => by rw [h3]; exact Heap.get?_push_of_some _ e
  have z3 : s3.heap.objs.size = s.heap.objs.size + 1 := by rw [h3]; exact Heap.size_push ..
  have I3 : Inv X pins σ (upd H s.heap.objs.size (.lst [])) s3 := by
    rw [h3]
    exact I.laid (t' := s.toks) (fun b o e => Heap.get?_push_of_some _ e) (Nat.le_refl _) ⟨Nat.zero_le _, [], 0, .nil, Heap.get?_push_size _ rfl⟩
  have fplt : ∀ b ∈ fp, b < s.heap.objs.size := fun b hb => by
    obtain ⟨o, e, _⟩ := T.obj 0 _ st b hb
    exact Heap.lt_size e
  have hCfresh : ∀ b, b < s.heap.objs.size → b ≠ s3.heap.objs.size := fun b hb => by rw [z3]; exact Nat.ne_of_lt (Nat.lt_succ_of_lt hb)
  have cellEnv : ∀ x c, cl.lookup x = some c → X.env.cells.lookup x = some c := clos_sub CS.clos fun x c h => by simp at h
  have cellLt : ∀ x c, cl.lookup x = some c → c < s.heap.objs.size := fun x c h => by
    obtain ⟨v, o, ho, _⟩ := I.cell x c (cellEnv x c h)
    exact Heap.lt_size ho
  have look : ∀ y c, ((x0, s3.heap.objs.size + 1) :: cl).lookup y = some c → (y = x0 ∧ c = s3.heap.objs.size + 1) ∨ (y ≠ x0 ∧ cl.lookup y = some c) := fun y c h => by
    rw [List.lookup_cons] at h
    cases e : y == x0 with
    | true => rw [e] at h; cases h; exact .inl ⟨by simpa using e, rfl⟩
    | false => rw [e] at h; exact .inr ⟨by simpa using e, h⟩
  have lookO : ∀ y c, y ≠ x0 → cl.lookup y = some c → ((x0, s3.heap.objs.size + 1) :: cl).lookup y = some c := fun y c n h => by
    rw [List.lookup_cons, show (y == x0) = false by simpa using n]; exact h
  have ok : (cxComp1 X sc N cl x0 fp s3 (upd H s.heap.objs.size (.lst []))).Ok := by
    refine ⟨I.ok.mod, CS.kind, I.ok.glob, I.ok.blt, Nat.le_refl _, fun x y c hx hy => ?inj, fun x hx => ?_, fun x c hx hy => ?cab, I.ok.hd, I.ok.frames, .inl rfl, fun b hb => ⟨?_, fun x c hx => ?_⟩, fun b o e => ?_, ?_, fun b o e hb => ?_, fun b hb hs => ?_, ?_, ?_⟩
    case inj =>
      rcases look x c hx with ⟨r1, r2⟩ | ⟨r1, r2⟩
      · rcases look y c hy with ⟨t1, t2⟩ | ⟨t1, t2⟩
        · rw [r1, t1]
        · exact absurd (cellLt y c t2) (by rw [r2, z3]; exact no2)
      · rcases look y c hy with ⟨t1, t2⟩ | ⟨t1, t2⟩
        · exact absurd (cellLt x c r2) (by rw [t2, z3]; exact no2)
        · exact I.ok.inj x y c (cellEnv x c r2) (cellEnv y c t2)
    case cab =>
      have : x = x0 := by simpa using (show (x == x0) = true from hx)
      rcases look x c hy with ⟨r1, r2⟩ | ⟨r1, r2⟩
      · rw [r2]; exact Nat.le_succ _
      · exact absurd this r1
    · by_cases n : x = x0
      · exact ⟨_, by show List.lookup x ((x0, s3.heap.objs.size + 1) :: cl) = _; rw [n, List.lookup_cons, beq_self_eq_true]⟩
      · obtain ⟨c, hc⟩ := clos_has CS.clos x (.inl ((relabel_mem1 CS.onec hx).resolve_left n))
        exact ⟨c, lookO x c n hc⟩
    · exact hCfresh b (fplt b hb)
    · rcases look x c hx with ⟨r1, r2⟩ | ⟨r1, r2⟩
      · rw [r2, z3]; intro z; have h := fplt b hb; rw [← z] at h; exact no2 h
      · exact (hf b hb).2.2.2.2.1 x c (cellEnv x c r2)
    · exact I3.bs b o e
    · exact Nat.le_trans I.ok.bsz (Nat.le_trans I.sz (by show s.heap.objs.size ≤ s3.heap.objs.size; rw [z3]; exact Nat.le_succ _))
    · rcases (hf b hb).2.2.2.1 with z | z
      · exact I.ok.noex b o e z
      · exact absurd (Nat.lt_of_lt_of_le (Heap.lt_size (I.ok.bs b o e).1) z) (Nat.lt_irrefl _)
    · rcases List.mem_cons.mp (I.stkSub b hs) with z | z
      · exact (hf b hb).2.1 z
      · exact (hf b hb).2.2.1 z
    · exact I3.stack
    · exact I3.stkFree
  have frC : ∀ b, s.heap.objs.size < b → (upd H s.heap.objs.size (.lst [])) b = none := fun b hb => by
    rw [upd_ne (Nat.ne_of_gt hb)]
    exact I.hok.fresh (Nat.le_of_lt hb)
  refine ⟨ok, ?_, I3.bare, Un.kept hk, ⟨_, hns, fun i x v e1 e2 e3 => ?_⟩, fun x c hx => ?_, ?_, fun x c hx => ?_, fun p hp => absurd (show p ∈ ([] : List (Addr × Obj)) from hp) (by simp), I3.hok.kept hk, ?_⟩
  · rfl
  · have e2' : (compSt own cap σ)[i]? = some (some v) := e2
    have e1' : N[i]? = some x := e1
    unfold compSt at e2'
    by_cases hi : i < own.length
    · rw [List.getElem?_append_left (by simpa using hi), List.getElem?_replicate] at e2'
      split at e2' <;> cases e2'
    · rw [List.getElem?_append_right (by simpa using Nat.le_of_not_lt hi), List.length_replicate, List.getElem?_map] at e2'
      rw [CS.names, List.getElem?_append_right (Nat.le_of_not_lt hi), List.getElem?_map] at e1'
      cases ec : cap[i - own.length]? with
      | none => rw [ec] at e1'; cases e1'
      | some j =>
        rw [ec] at e1' e2'
        have ex : X.N.getD j Str.empty = x := by simpa using e1'
        have ev : σ.getD j none = some v := by simpa using e2'
        obtain ⟨hj, hkind, hmem⟩ := CS.capOk j (List.mem_of_getElem? ec)
        rw [ex] at hkind hmem
        obtain ⟨m, hn, hl⟩ := I.loc
        have hxj : X.N[j]? = some x := by
          rw [List.getElem?_eq_getElem hj]
          rw [← ex, List.getD_eq_getElem?_getD, List.getElem?_eq_getElem hj]; rfl
        have hvj : σ[j]? = some (some v) := by
          have : j < σ.length := by rw [I.len]; exact hj
          rw [List.getD_eq_getElem?_getD, List.getElem?_eq_getElem this] at ev
          rw [List.getElem?_eq_getElem this]
          exact congrArg some ev
        obtain ⟨u, r, l⟩ := hl j x v hxj hvj (by
          rcases hkind with z | z
          · exact .inr (.inl z)
          · exact .inr (.inr z))
        refine ⟨u, r, ?_⟩
        rcases l with ⟨k, _⟩ | ⟨k, c, e, z⟩
        · rcases hkind with z | z <;> (rw [z] at k; cases k)
        · obtain ⟨c', ec'⟩ := clos_has CS.clos x (.inl (PySem.mem_of_lookup hmem))
          have : c' = c := by
            have := cellEnv x c' ec'
            rw [e] at this
            exact (Option.some.inj this).symm
          subst this
          have nx : x ≠ x0 := fun z => by rw [z, CS.xc] at hmem; cases hmem
          refine .inr ⟨?_, c', lookO x c' nx ec', ?_⟩
          · exact relabel_free hmem
          · obtain ⟨o, ho, hd⟩ := z
            exact ⟨o, hk _ _ (k3 _ _ ho), hd⟩
  · rcases look x c hx with ⟨r1, r2⟩ | ⟨r1, r2⟩
    · rw [r2]; exact hcell
    · obtain ⟨v, o, ho, hd⟩ := I.cell x c (cellEnv x c r2)
      exact ⟨v, o, hk _ _ (k3 _ _ ho), hd⟩
  · exact frC _ (by show s.heap.objs.size < s3.heap.objs.size; rw [z3]; exact Nat.lt_succ_self _)
  · rcases look x c hx with ⟨r1, r2⟩ | ⟨r1, r2⟩
    · rw [r2]; exact frC _ (by rw [z3]; exact no3)
    · obtain ⟨v, o, ho, hd⟩ := I.cell x c (cellEnv x c r2)
      rw [upd_ne (Nat.ne_of_lt (Heap.lt_size ho))]
      exact I.freeC x c (cellEnv x c r2)
  · show (compSt own cap σ).length = N.length
    unfold compSt
    rw [CS.names]
    simp

theorem comp_core1 {RR : Value → Addr → Result → Shared → Prop} {E : Value → Shared → Prop} {Q : VK} (hc : X.calm = true) (CS : CompScope1 X sc own cap N cl x0) (I : Inv X pins σ H s) (T : Turn X.prog X.w X.K tg J fp it tn) (st : tn 0 s.heap) (hf : ∀ b ∈ fp, FpOk X pins H b)
    (hg : ∀ f s3 H3, PG (cxComp1 X sc N cl x0 f s3 H3) tg g) (ht : ∀ f s3 H3, PTs (cxComp1 X sc N cl x0 f s3 H3) ifs tc) (he : ∀ f s3 H3, PE (cxComp1 X sc N cl x0 f s3 H3) elt te)
    (h : CompTurns J g tc te (compSt own cap σ) H Q)
    (fin : ∀ D C H' s', Inv X pins σ H' s' → (∃ m, s'.heap.Ns C m) → FpOk X pins H' C → Q (.ref D) H' → RR (.ref D) C (.ok .next) s') :
    wpAny (model X.prog X.w) X.A (newList []) (fun acc s₃ => wpAny (model X.prog X.w) X.A (newFunctionEnv sc X.env.globals cl [] X.env.qual none .none (some X.env)) (fun cenv s₄ =>
      codeAny (model X.prog X.w) X.A (.compStart (.ListComp elt [⟨tg, iter, ifs, 0⟩] sc pos) 0 (.ref it) acc { cenv with scope := relabel sc X.env }) (RR acc cenv.locals) s₄) E s₃) E s := by
  refine wpAny_newObj_type (wpNew1 CS.cf (fun h4 hns hsb hce => ?_))
  have hD : H s.heap.objs.size = none := I.fresh
  obtain ⟨W, ⟨m0, w0⟩, turn⟩ := h s.heap.objs.size hD
  generalize hs3 : ({ s with heap := s.heap.push { cls := .type "list", dict := none, data := .seq ([] : List Value).toArray } } : Shared) = s3 at *
  have h3 := hs3.symm
  have e3 : s.heap.push { cls := .type "list", dict := none, data := .seq ([] : List Value).toArray } = s3.heap := by rw [h3]
  have z3 : s3.heap.objs.size = s.heap.objs.size + 1 := by rw [h3]; exact Heap.size_push ..
  have k3 : ∀ b o, s.heap.get? b = some o → s3.heap.get? b = some o := fun b o e => by rw [h3]; exact Heap.get?_push_of_some _ e
  have k4 : ∀ b o, s3.heap.get? b = some o → h4.get? b = some o := fun b o e => hsb b o e
  have fplt : ∀ b ∈ fp, b < s.heap.objs.size := fun b hb => by
    obtain ⟨o, e, _⟩ := T.obj 0 _ st b hb
    exact Heap.lt_size e
  have Ic : ∀ t4, Inv (cxComp1 X sc N cl x0 fp s3 (upd H s.heap.objs.size (.lst []))) [] (compSt own cap σ) (upd H s.heap.objs.size (.lst [])) { s3 with heap := h4, toks := t4 } := fun t4 =>
    comp_inv1 (t4 := t4) CS I T st hf _ rfl s3 h3 hns k4 hce
  have st4 : tn 0 h4 := T.keep _ _ _ st fun b hb o e => k4 b o (k3 b o e)
  have fr4 : ∀ b ∈ fp, (upd H s.heap.objs.size (.lst [])) b = none := fun b hb => by
    rw [upd_ne (Nat.ne_of_lt (fplt b hb))]
    exact (hf b hb).1
  have stat : ∀ {H' : Hp}, (∀ b ∈ fp, H' b = none) → ∀ b ∈ fp, FpOk (cxComp1 X sc N cl x0 fp s3 (upd H s.heap.objs.size (.lst []))) [] H' b := fun {H'} hn b hb => by
    refine ⟨hn b hb, ?_, fun hs => ?_, .inl hb, fun x c hx => ?_, fun p hp => absurd (show p ∈ ([] : List (Addr × Obj)) from hp) (by simp)⟩
    · show b ≠ s3.heap.objs.size
      rw [z3]
      exact Nat.ne_of_lt (Nat.lt_succ_of_lt (fplt b hb))
    · rcases List.mem_cons.mp (I.stkSub b hs) with z | z
      · exact (hf b hb).2.1 z
      · exact (hf b hb).2.2.1 z
    · have hx' : List.lookup x ((x0, s3.heap.objs.size + 1) :: cl) = some c := hx
      rw [List.lookup_cons] at hx'
      cases e : x == x0 with
      | true =>
        rw [e] at hx'
        cases hx'
        rw [z3]; intro z; have h := fplt b hb; rw [← z] at h; exact no2 h
      | false =>
        rw [e] at hx'
        exact (hf b hb).2.2.2.2.1 x c (clos_sub CS.clos (fun x c h => by simp at h) x c hx')
  have loop : ∀ s5 : Shared, (∃ t4, s5 = { s3 with heap := h4, toks := t4 }) → codeAny (model X.prog X.w) X.A (.compLoop (.ListComp elt [⟨tg, iter, ifs, 0⟩] sc pos) 0 (.ref it) (.ref s.heap.objs.size) (compEnvC sc ((x0, s3.heap.objs.size + 1) :: cl) s3.heap.objs.size X.env))
      (RR (.ref s.heap.objs.size) s3.heap.objs.size) s5 := by
    rintro s5 ⟨t4, rfl⟩
    refine comp_loop (fun n s' => ∃ i ys σ' H', Inv (cxComp1 X sc N cl x0 fp s3 (upd H s.heap.objs.size (.lst []))) [] σ' H' s' ∧ tn i s'.heap ∧ (∀ b ∈ fp, H' b = none) ∧ W i n ys σ' H') ?_
      ⟨0, [], _, _, Ic t4, st4, fr4, w0⟩
    rintro n s' ⟨i, ys, σ', H', I', st', fr', w'⟩
    rcases turn i n ys σ' H' w' with ⟨stop, q⟩ | ⟨go, step⟩
    · refine thn (T.done (cxComp1 X sc N cl x0 fp s3 (upd H s.heap.objs.size (.lst []))) rfl rfl rfl hc i [] s' σ' H' NoX I' (stat fr') st' stop) fun r s6 ⟨hr, I6⟩ => ?_
      subst hr
      have bs := I6.base
      have un : Un (frs X.stack) fp H H' s.heap s6.heap := by
        have neD : ∀ b o, s.heap.get? b = some o → b ≠ s.heap.objs.size := fun b o e => Nat.ne_of_lt (Heap.lt_size e)
        refine ⟨fun b o e n hb hx => bs.keep b o (k3 b o e) (by show upd H _ _ b = none; rw [upd_ne (neD b o e)]; exact n) hb hx, fun b o e n hb hx => bs.slot b o (k3 b o e) (by show upd H _ _ b = none; rw [upd_ne (neD b o e)]; exact n) hb hx,
          fun b o e n hx => bs.free b o (k3 b o e) (by show upd H _ _ b = none; rw [upd_ne (neD b o e)]; exact n) hx, fun b o e hx => bs.there b o (k3 b o e) hx,
          fun b xs e => bs.tups b xs (by show upd H _ _ b = _; rw [upd_ne (ne_of_none e hD)]; exact e), fun b o u e => bs.frzs b o u (by show upd H _ _ b = _; rw [upd_ne (ne_of_none e hD)]; exact e), fun b ps e => bs.tbls b ps (by show upd H _ _ b = _; rw [upd_ne (ne_of_none e hD)]; exact e)⟩
      have I7 : Inv X pins σ H' s6 := I.call' (ch := fp) (by rw [I6.os]; show s3.os = s.os; rw [h3]) un I6.hok I6.bare fun b hb => ⟨(hf b hb).2.2.2.1, (hf b hb).2.1, (hf b hb).2.2.2.2.1, (hf b hb).2.2.2.2.2⟩
      obtain ⟨mC, nC, _⟩ := I6.loc
      exact fin _ _ H' s6 I7 ⟨mC, nC⟩ (I.fpOk (by show s.heap.objs.size ≤ s3.heap.objs.size; rw [z3]; exact Nat.le_succ _) I6.free) q
    · refine thn (T.item (cxComp1 X sc N cl x0 fp s3 (upd H s.heap.objs.size (.lst []))) rfl rfl rfl hc i [] s' σ' H' NoX I' (stat fr') st' go) fun r s6 ⟨u, hr, h6⟩ => ?_
      subst hr
      refine thn h6 fun _ s7 ⟨x, H7, I7, r7, y7, st7, fr7⟩ => ?_
      have I7' := I7.pinned (stat fr7) (T.obj _ _ st7)
      have back : ∀ {σ8 : St} {H8 : Hp} {s8 : Shared}, Inv (cxComp1 X sc N cl x0 fp s3 (upd H s.heap.objs.size (.lst []))) ([] ++ pinsAt fp s7.heap) σ8 H8 s8 → tn (i + 1) s8.heap ∧ ∀ b ∈ fp, H8 b = none := fun {σ8 H8 s8} I8 => by
        refine ⟨T.keep _ _ _ st7 fun b hb o e => (I8.pin (b, o) (List.mem_append_right _ (List.mem_append_right _ (mem_pinsAt hb e)))).1, fun b hb => ?_⟩
        obtain ⟨o, e, d⟩ := T.obj _ _ st7 b hb
        exact (I8.pin (b, o) (List.mem_append_right _ (List.mem_append_right _ (mem_pinsAt hb e)))).2.1
      refine thn (hg _ _ _ _ s7 σ' H7 x u _ I7' r7 (step x H7 y7)) fun _ s8 ⟨σ8, H8, I8, q8⟩ => ?_
      refine thn (ht _ _ _ _ s8 σ8 H8 _ I8 q8) fun ok s9 ⟨H9, I9, q9⟩ => ?_
      cases ok with
      | false =>
        rw [if_neg Bool.false_ne_true] at q9 ⊢
        obtain ⟨m', hm, w9⟩ := q9
        exact ⟨m', hm, i + 1, ys, σ8, H9, I9.unpinned, (back I9).1, (back I9).2, w9⟩
      | true =>
        rw [if_pos rfl] at q9 ⊢
        refine thn (he _ _ _ _ s9 σ8 H9 _ I9 q9) fun xv s10 ⟨y, H10, I10, r10, hDl, hz, m', hm, w10⟩ => ?_
        refine thn (mt_append _ s10 σ8 H10 (.ref s.heap.objs.size) [y] (.ref s.heap.objs.size) [xv] (fun _ H'' => H'' = upd H10 s.heap.objs.size (.lst (ys ++ [y]))) I10 rfl (.cons r10 .nil) ⟨_, ys, y, rfl, rfl, hDl, hz, rfl⟩) fun _ s11 ⟨_, H11, I11, _, e11⟩ => ?_
        subst e11
        exact ⟨m', hm, i + 1, ys ++ [y], σ8, _, I11.unpinned, (back I11).1, (back I11).2, w10⟩
  exact codeAny_compStart_list (loop _ ⟨_, rfl⟩) (T.self _ 0 _ _ _ st4 (loop _ ⟨_, rfl⟩))

theorem pe_comp1 (hc : X.calm = true) (CS : CompScope1 X sc own cap N cl x0) (hi : PI X tg iter wi) (hg : ∀ f s3 H3, PG (cxComp1 X sc N cl x0 f s3 H3) tg g) (ht : ∀ f s3 H3, PTs (cxComp1 X sc N cl x0 f s3 H3) ifs tc) (he : ∀ f s3 H3, PE (cxComp1 X sc N cl x0 f s3 H3) elt te)
    (hs : ∀ x, foldedSetIterable iter X.env x = pure x := by intro _; rfl) : PE X (.ListComp elt [⟨tg, iter, ifs, 0⟩] sc pos) (tComp own cap wi g tc te) := by
  intro pins s σ H Q I h
  rw [eval_ListComp]
  refine wpAny_comprehension_free (use := none) rfl hs (clos_eq CS.clos) CS.kind CS.loc (thn (hi pins s σ H _ I h) fun v s1 h1 => thn h1 fun itv s2 h2 => ?_)
  obtain ⟨it, fp, tn, J, H2, e, I2, T, st2, f2, q2⟩ := h2
  subst e
  refine comp_core1 (RR := fun acc C => compPost (model X.prog X.w) X.A X.xe none (EP X pins σ Q) acc C) (Q := Q) hc CS I2 T st2 f2 hg ht he q2 ?_
  intro D C H' s' I' ⟨m, hn⟩ fC q
  exact ⟨m, hn, fun h' sb => ⟨.ref D, H', I'.turned (t' := s'.toks) (fun b o hb e => (sb.2 b hb).trans e) fC.1 fC.2.1 fC.2.2.2.1 fC.2.2.2.2.1 fC.2.2.2.2.2, rfl, q⟩⟩

end
section
variable {X : Cx} {sc : Scope} {own N : List Str} {cap : List Nat} {cl : List (Str × Addr)} {x0 : Str} {tg elt iter : Expr} {ifs : List Expr} {δ : List Slot} {ds : List PyData} {pos : Pos} {tgt : Tgt}
/-- one turn of a block: F tells what it adds for the item -/
def BlockD1 (X : Cx) (sc : Scope) (own : List Str) (cap : List Nat) (N : List Str) (cl : List (Str × Addr)) (x0 : Str) (tgt : Tgt) (elt : Expr) (ifs : List Expr) (δ : List Slot) (F : PyData → Option PyData) (d : PyData) : Prop :=
  ∃ δ', asgD tgt d (compD own cap δ) = some δ' ∧ (∀ f s3 H3, VTs (cxComp1 X sc N cl x0 f s3 H3) ifs δ' (F d).isSome) ∧ ∀ r, F d = some r → ∀ f s3 H3, VE (cxComp1 X sc N cl x0 f s3 H3) elt δ' r
def teC1 (X : Cx) (sc : Scope) (N : List Str) (cl : List (Str × Addr)) (x0 : Str) (elt : Expr) : TE := fun σ H Q => ∀ f s3 H3, cE (cxComp1 X sc N cl x0 f s3 H3) elt σ H Q
def tcC1 (X : Cx) (sc : Scope) (N : List Str) (cl : List (Str × Addr)) (x0 : Str) (ifs : List Expr) : TT := fun σ H Q => ∀ f s3 H3, cTs (cxComp1 X sc N cl x0 f s3 H3) ifs σ H Q
theorem block_turns1 {F : PyData → Option PyData} (ht : tgtIn own.length tgt = true) (hz : ds.length ≤ sizeLine) (step : ∀ d ∈ ds, BlockD1 X sc own cap N cl x0 tgt elt ifs δ F d) {J : It} {B0 B H0 H : Hp} {σ : St} {Q : VK} (f : FrD X.K B0 B H0 H σ δ) (it : ItD X.K J H0 ds)
    (q : ∀ p xs H0' H', Grow H0 H H0' H' → H p = none → H0' p = none → H' p = some (.lst xs) → Reps X.K H0' xs (ds.filterMap F) → Q (.ref p) H') :
    CompTurns J (gOf X.K tgt) (tcC1 X sc N cl x0 ifs) (teC1 X sc N cl x0 elt) (compSt own cap σ) H Q := by
  intro D hD
  have hBD : B D = none := f.ent.big.free hD
  refine ⟨fun i m ys σ' H' => i ≤ ds.length ∧ m = ds.length - i ∧ ys.length ≤ i ∧ ∃ Ha, Grow H0 H Ha H' ∧ FrD X.K B0 B Ha H' σ' (compD own cap δ) ∧ Ha D = none ∧ H' D = some (.lst ys) ∧ Reps X.K Ha ys ((ds.take i).filterMap F),
    ⟨ds.length, Nat.zero_le _, rfl, Nat.le_refl _, H0, .loose f.sub hD, (f.comp own cap).touch (f.sub.free hD) hBD compD_noOwn, f.sub.free hD, upd_same, by simpa using Reps.nil⟩, ?_⟩
  rintro i m ys σ' H' ⟨hi, rfl, hy, Ha, g, fa, hDa, hDl, rs⟩
  obtain ⟨i1, i2, i3⟩ := it Ha H' g.sml g.sub i
  by_cases hlt : i < ds.length
  · refine .inr ⟨i1 hlt, fun x H2 y => ?_⟩
    have hd : ds[i]? = some ds[i] := by simp [hlt]
    obtain ⟨Hb, g2, rx⟩ := i3 x H2 ds[i] hd y
    obtain ⟨δ', e1, e2, e3⟩ := step ds[i] (List.getElem_mem hlt)
    obtain ⟨k1, k2⟩ := comp_back ht e1
    have noD : ∀ {Hx Hy : Hp}, Grow Ha H' Hx Hy → Hx D = none := fun {Hx Hy} gg => by
      cases e : Hx D with
      | none => rfl
      | some o =>
        rcases gg.new D (by rw [e]; simp) with z | z
        · exact absurd hDa z
        · rw [hDl] at z; cases z
    have tk : (ds.take (i + 1)).filterMap F = (ds.take i).filterMap F ++ (F ds[i]).toList := by
      rw [List.take_add_one, hd, List.filterMap_append]
      cases eF : F ds[i] <;> simp [List.filterMap_cons, eF]
    refine asg_ok (fa.grow g2) rx e1 fun σ3 f3 => ?_
    intro fp s3 H3
    refine e2 fp s3 H3 B0 B σ3 Hb H2 _ f3 fun Hc H4 g4 => ?_
    have g24 := g2.trans g4
    cases eF : F ds[i] with
    | none =>
      rw [show (none : Option PyData).isSome = false from rfl, if_neg Bool.false_ne_true]
      refine ⟨ds.length - (i + 1), by omega, hlt, rfl, by omega, Hc, g.trans g24, (f3.grow g4).forget k1.symm k2, noD g24, g24.big _ _ hDl, ?_⟩
      rw [tk, eF]
      simpa using rs.mono g24.sml
    | some r =>
      rw [show (some r : Option PyData).isSome = true from rfl, if_pos rfl]
      intro fp' s3' H3'
      refine e3 r eF fp' s3' H3' B0 B σ3 Hc H4 _ (f3.grow g4) fun w Hd H5 g5 r5 => ?_
      have g25 := g24.trans g5
      have hD5 : Hd D = none := noD g25
      refine ⟨g25.big _ _ hDl, by omega, ds.length - (i + 1), by omega, hlt, rfl, by simp; omega, Hd, ?_, ((f3.grow g4).grow g5 |>.forget k1.symm k2).touch hD5 hBD compD_noOwn, hD5, upd_same, ?_⟩
      · have gg := g.trans g25
        exact ⟨fun b u e => by rw [upd_ne (ne_of_none e hD)]; exact gg.big b u e, gg.sml, fun b u e => by rw [upd_ne (ne_of_none e hD5)]; exact gg.sub b u e, gg.new⟩
      · rw [tk, eF]
        exact (rs.mono g25.sml).append (.cons r5 .nil)
  · have e : i = ds.length := by omega
    subst e
    refine .inl ⟨i2 (Nat.le_refl _), q D ys Ha H' g hD hDa hDl ?_⟩
    simpa using rs
theorem vo_comp1 {F : PyData → Option PyData} (hc : X.calm = true) (CS : CompScope1 X sc own cap N cl x0) (hi : VI X tg iter δ ds) (hg : ∀ f s3 H3, PG (cxComp1 X sc N cl x0 f s3 H3) tg (gOf X.K tgt)) (ht : tgtIn own.length tgt = true) (hz : ds.length ≤ sizeLine)
    (step : ∀ d ∈ ds, BlockD1 X sc own cap N cl x0 tgt elt ifs δ F d) (hs : ∀ x, foldedSetIterable iter X.env x = pure x := by intro _; rfl) : VO X (.ListComp elt [⟨tg, iter, ifs, 0⟩] sc pos) δ (ds.filterMap F) := by
  obtain ⟨wi, pi, qi⟩ := hi
  refine .of (pe_comp1 (tc := tcC1 X sc N cl x0 ifs) (te := teC1 X sc N cl x0 elt) hc CS pi hg (fun f s3 H3 pins s σ H Q I h => h f s3 H3 pins s I) (fun f s3 H3 pins s σ H Q I h => h f s3 H3 pins s I) hs) fun B0 B σ H0 H Q f q => ?_
  refine qi B0 B σ H0 H _ f fun J H1 H1' g it => ?_
  exact block_turns1 ht hz step (f.grow g) it fun p xs Ha Hb g2 a1 a2 a3 a4 => q p xs Ha Hb (g.trans g2) (g.big.free a1) a2 a3 a4
end
end L2

set_option linter.all false
set_option maxHeartbeats 4000000
/-! ### the sort's tree of questions, answered by an order -/
namespace L2.Srt
open PySem PySem.W PyProof.Rows

/-- the tree asked by an order over the places below N -/
def kW {α : Type} (N : Nat) (lt : Nat → Nat → Bool) : KasT α → (α → Prop) → Prop
  | .ret a, Q => Q a
  | .ask i j k, Q => i < N ∧ j < N ∧ kW N lt (k (lt i j)) Q
theorem kW_bind {α β : Type} {N : Nat} {lt : Nat → Nat → Bool} {f : α → KasT β} {Q : β → Prop} : ∀ (t : KasT α), kW N lt t (fun a => kW N lt (f a) Q) → kW N lt (t.bind f) Q
  | .ret _, h => h
  | .ask i j k, h => ⟨h.1, h.2.1, kW_bind (k (lt i j)) h.2.2⟩
theorem kW_wp {α : Type} {N : Nat} {lt : Nat → Nat → Bool} {cmp : Nat → Nat → (Bool → Shared → Prop) → Shared → Prop} {s : Shared} (hc : ∀ i j C, i < N → j < N → C (lt i j) s → cmp i j C s) {Q : α → Shared → Prop} : ∀ (t : KasT α), kW N lt t (fun a => Q a s) → t.kasWp cmp Q s
  | .ret _, h => h
  | .ask i j k, h => hc i j _ h.1 h.2.1 (kW_wp hc (k (lt i j)) h.2.2)

structure Ord (lt : Nat → Nat → Bool) : Prop where
  irr : ∀ i, lt i i = false
  asy : ∀ i j, lt i j = true → lt j i = false
  tra : ∀ i j k, lt j i = false → lt k j = false → lt k i = false

section
variable {N : Nat} {lt : Nat → Nat → Bool}
def Ok (N : Nat) (p : Array Nat) : Prop := p.Perm (List.range N).toArray
theorem Ok.size {p : Array Nat} (h : Ok N p) : p.size = N := by
  have := h.size_eq
  simpa using this
theorem Ok.bd {p : Array Nat} (h : Ok N p) {i : Nat} (hi : i < N) : p.getD i 0 < N := by
  have hs := h.size
  have hm : p.getD i 0 ∈ p := by
    have : i < p.size := by omega
    simp [Array.getD, this]
  have : p.getD i 0 ∈ (List.range N).toArray := h.mem_iff.mp hm
  simpa using this
theorem Ok.rev {p : Array Nat} (h : Ok N p) (i j : Nat) : Ok N (kas_rev p i j) := (mirror_perm p i j _).trans h
theorem Ok.bub {p : Array Nat} (h : Ok N p) (i j : Nat) : Ok N (bubble p i j) := (bubble_perm p i j).trans h
theorem getD_of {p q : Array Nat} {i j : Nat} (h : p[i]? = q[j]?) : p.getD i 0 = q.getD j 0 := by
  rw [Array.getD_eq_getD_getElem?, Array.getD_eq_getD_getElem?, h]
theorem rev_in {p : Array Nat} {i j k : Nat} (hj : j ≤ p.size) (h1 : i ≤ k) (h2 : k < j) : (kas_rev p i j).getD k 0 = p.getD (i + j - 1 - k) 0 :=
  getD_of (by unfold kas_rev; rw [getElem?_mirror_all hj, if_pos ⟨h1, h2⟩])
theorem rev_out {p : Array Nat} {i j k : Nat} (hj : j ≤ p.size) (h : ¬ (i ≤ k ∧ k < j)) : (kas_rev p i j).getD k 0 = p.getD k 0 :=
  getD_of (by unfold kas_rev; rw [getElem?_mirror_all hj, if_neg h])
theorem bub_at {p : Array Nat} {k l : Nat} (hk : k < p.size) (hl : l ≤ k) (i : Nat) : (bubble p k (k - l)).getD i 0 = if i = l then p.getD k 0 else if l < i ∧ i ≤ k then p.getD (i - 1) 0 else p.getD i 0 := by
  have e := getElem?_bubble hk (k - l) (by omega) i
  have e2 : k - (k - l) = l := by omega
  rw [e2] at e
  by_cases h1 : i = l
  · rw [if_pos h1] at e ⊢
    exact getD_of e
  · rw [if_neg h1] at e ⊢
    by_cases h2 : l < i ∧ i ≤ k
    · rw [if_pos h2] at e ⊢
      exact getD_of e
    · rw [if_neg h2] at e ⊢
      exact getD_of e

/-- a run that rises, that falls -/
def Up (lt : Nat → Nat → Bool) (p : Array Nat) (n : Nat) : Prop := ∀ i j, i ≤ j → j < n → lt (p.getD j 0) (p.getD i 0) = false
def Dn (lt : Nat → Nat → Bool) (p : Array Nat) (n : Nat) : Prop := ∀ i j, i ≤ j → j < n → lt (p.getD i 0) (p.getD j 0) = false
theorem Up.step (O : Ord lt) {p : Array Nat} {n : Nat} (h1 : 1 ≤ n) (h : Up lt p n) (hl : lt (p.getD n 0) (p.getD (n - 1) 0) = false) : Up lt p (n + 1) := fun i j hij hj => by
  by_cases e : j = n
  · subst e
    by_cases e2 : i = j
    · subst e2; exact O.irr _
    · exact O.tra _ _ _ (h i (j - 1) (by omega) (by omega)) hl
  · exact h i j hij (by omega)
theorem Dn.step (O : Ord lt) {p : Array Nat} {n : Nat} (h1 : 1 ≤ n) (h : Dn lt p n) (hl : lt (p.getD (n - 1) 0) (p.getD n 0) = false) : Dn lt p (n + 1) := fun i j hij hj => by
  by_cases e : j = n
  · subst e
    by_cases e2 : i = j
    · subst e2; exact O.irr _
    · exact O.tra _ _ _ hl (h i (j - 1) (by omega) (by omega))
  · exact h i j hij (by omega)

theorem asc_ok (O : Ord lt) {p : Array Nat} (hp : Ok N p) {Q : Nat → Prop} : ∀ (f n : Nat), 1 ≤ n → n + f ≤ N → Up lt p n →
    (∀ m, n ≤ m → m ≤ n + f → Up lt p m → (m < n + f → lt (p.getD m 0) (p.getD (m - 1) 0) = true) → Q m) → kW N lt (kas_asc p f n) Q
  | 0, n, h1, hN, hu, hq => hq n (Nat.le_refl _) (by omega) hu fun h => absurd h (by omega)
  | f + 1, n, h1, hN, hu, hq => by
    refine ⟨hp.bd (by omega), hp.bd (by omega), ?_⟩
    cases hc : lt (p.getD n 0) (p.getD (n - 1) 0) with
    | true =>
      dsimp only
      rw [if_pos rfl]
      exact hq n (Nat.le_refl _) (by omega) hu fun _ => hc
    | false =>
      dsimp only
      rw [if_neg Bool.false_ne_true]
      exact asc_ok O hp f (n + 1) (by omega) (by omega) (hu.step O h1 hc) fun m a b c d => hq m (by omega) (by omega) c fun h => d (by omega)

/-- the tail of q + 1 equal ones ahead of n -/
def Tail (lt : Nat → Nat → Bool) (p : Array Nat) (n q : Nat) : Prop := ∀ i j, n - (q + 1) ≤ i → i < n → n - (q + 1) ≤ j → j < n → lt (p.getD i 0) (p.getD j 0) = false
theorem tail_rev (O : Ord lt) {p : Array Nat} (hp : Ok N p) {n q : Nat} (hn : n ≤ N) (hd : Dn lt p n) (ht : Tail lt p n q) : Dn lt (kas_rev p (n - (q + 1)) n) n := fun i j hij hj => by
  have hs := hp.size
  by_cases a : n - (q + 1) ≤ j
  · rw [rev_in (by omega) a hj]
    by_cases b : n - (q + 1) ≤ i
    · rw [rev_in (by omega) b (by omega)]
      exact ht _ _ (by omega) (by omega) (by omega) (by omega)
    · rw [rev_out (by omega) (by omega)]
      exact hd _ _ (by omega) (by omega)
  · rw [rev_out (by omega) (by omega), rev_out (by omega) (by omega)]
    exact hd i j hij hj

theorem desc_ok (O : Ord lt) {Q : Array Nat × Nat × Nat → Prop} : ∀ (f : Nat) (p : Array Nat) (n q : Nat), Ok N p → q + 1 ≤ n → n + f ≤ N → Dn lt p n → Tail lt p n q →
    (∀ p' n' q', Ok N p' → q' + 1 ≤ n' → n ≤ n' → n' ≤ n + f → Dn lt p' n' → Tail lt p' n' q' → Q (p', n', q')) → kW N lt (kas_desc f p n q) Q
  | 0, p, n, q, hp, hq, hN, hd, ht, k => k p n q hp hq (Nat.le_refl _) (by omega) hd ht
  | f + 1, p, n, q, hp, hq, hN, hd, ht, k => by
    have hs := hp.size
    refine ⟨hp.bd (by omega), hp.bd (by omega), ?_⟩
    cases hc : lt (p.getD n 0) (p.getD (n - 1) 0) with
    | true =>
      have hc' : lt (p.getD (n - 1) 0) (p.getD n 0) = false := O.asy _ _ hc
      dsimp only
      rw [if_pos rfl]
      by_cases h0 : q > 0
      · rw [if_pos h0]
        refine desc_ok O f _ (n + 1) 0 (hp.rev _ _) (by omega) (by omega) ((tail_rev O hp (by omega) hd ht).step O (by omega) ?_) (fun i j a b c d => ?_) fun p' n' q' a b c d => k p' n' q' a b (by omega) (by omega)
        · rw [rev_out (k := n) (by omega) (by omega), rev_in (k := n - 1) (by omega) (by omega) (by omega)]
          exact O.tra _ _ _ hc' (ht _ _ (by omega) (by omega) (by omega) (by omega))
        · have : i = j := by omega
          subst this; exact O.irr _
      · rw [if_neg h0]
        refine desc_ok O f p (n + 1) 0 hp (by omega) (by omega) (hd.step O (by omega) hc') (fun i j a b c d => ?_) fun p' n' q' a b c d => k p' n' q' a b (by omega) (by omega)
        have : i = j := by omega
        subst this; exact O.irr _
    | false =>
      dsimp only
      rw [if_neg Bool.false_ne_true]
      refine ⟨hp.bd (by omega), hp.bd (by omega), ?_⟩
      cases hc2 : lt (p.getD (n - 1) 0) (p.getD n 0) with
      | true =>
        dsimp only
        rw [if_pos rfl]
        exact k p n q hp hq (Nat.le_refl _) (by omega) hd ht
      | false =>
        dsimp only
        rw [if_neg Bool.false_ne_true]
        refine desc_ok O f p (n + 1) (q + 1) hp (by omega) (by omega) (hd.step O (by omega) hc2) (fun i j a b c d => ?_) fun p' n' q' a b c d => k p' n' q' a b (by omega) (by omega)
        by_cases ei : i = n
        · subst ei
          by_cases ej : j = i
          · subst ej; exact O.irr _
          · exact O.tra _ _ _ (ht j (i - 1) (by omega) (by omega) (by omega) (by omega) |> fun z => (ht (i - 1) j (by omega) (by omega) (by omega) (by omega))) hc
        · by_cases ej : j = n
          · subst ej
            exact O.tra _ _ _ hc2 (ht i (j - 1) (by omega) (by omega) (by omega) (by omega))
          · exact ht i j (by omega) (by omega) (by omega) (by omega)

theorem rev_up {p : Array Nat} (hp : Ok N p) {n : Nat} (hn : n ≤ N) (hd : Dn lt p n) : Up lt (kas_rev p 0 n) n := fun i j hij hj => by
  have hs := hp.size
  rw [rev_in (by omega) (by omega) hj, rev_in (by omega) (by omega) (by omega)]
  exact hd _ _ (by omega) (by omega)

theorem tail3_ok (O : Ord lt) {Q : Nat × Array Nat → Prop} {p : Array Nat} (hp : Ok N p) {n : Nat} (h1 : 1 ≤ n) (hn : n ≤ N) (hd : Dn lt p n)
    (k : ∀ m p', 1 ≤ m → m ≤ N → Ok N p' → Up lt p' m → Q (m, p')) : kW N lt (kas_tail3 n N p) Q := by
  refine kW_bind _ (asc_ok O (hp.rev _ _) _ _ h1 (by omega) (rev_up hp hn hd) fun m a b c _ => ?_)
  exact k m _ (by omega) (by omega) (hp.rev _ _) c

theorem descPart_ok (O : Ord lt) {Q : Nat × Array Nat → Prop} {p : Array Nat} (hp : Ok N p) {n : Nat} (h1 : 1 ≤ n) (hn : n + 1 ≤ N) (hd : Dn lt p n) (hl : lt (p.getD (n - 1) 0) (p.getD n 0) = false)
    (k : ∀ m p', 1 ≤ m → m ≤ N → Ok N p' → Up lt p' m → Q (m, p')) : kW N lt (kas_descPart n N p) Q := by
  refine kW_bind _ (desc_ok O _ p (n + 1) 0 hp (by omega) (by omega) (hd.step O h1 hl) (fun i j a b c d => ?_) fun p' n' q' a b c d e f => ?_)
  · have : i = j := by omega
    subst this; exact O.irr _
  · dsimp only
    by_cases h0 : q' > 0
    · rw [if_pos h0]
      exact tail3_ok O (a.rev _ _) (by omega) (by omega) (tail_rev O a (by omega) e f) k
    · rw [if_neg h0]
      exact tail3_ok O a (by omega) (by omega) e k

theorem count_ok (O : Ord lt) {Q : Nat × Array Nat → Prop} {p : Array Nat} (hp : Ok N p) (hN : 1 ≤ N) (k : ∀ m p', 1 ≤ m → m ≤ N → Ok N p' → Up lt p' m → Q (m, p')) : kW N lt (kas_count N p) Q := by
  have hs := hp.size
  refine kW_bind _ (asc_ok O hp _ 1 (Nat.le_refl _) (by omega) (fun i j a b => ?_) fun n a b c d => ?_)
  · have e1 : i = 0 := by omega
    have e2 : j = 0 := by omega
    subst e1; subst e2; exact O.irr _
  · by_cases e : (n == N) = true
    · rw [if_pos e]
      have e' : n = N := by simpa using e
      exact k n p (by omega) (by omega) hp c
    · rw [if_neg e]
      have e' : n ≠ N := by simpa using e
      have hl := d (by omega)
      have hl' := O.asy _ _ hl
      by_cases h1 : n > 1
      · rw [if_pos h1]
        refine ⟨hp.bd (by omega), hp.bd (by omega), ?_⟩
        cases hc : lt (p.getD 0 0) (p.getD (n - 1) 0) with
        | true =>
          dsimp only
          rw [if_pos rfl]
          exact k n p (by omega) (by omega) hp c
        | false =>
          dsimp only
          rw [if_neg Bool.false_ne_true]
          have eqs : ∀ i j, i < n → j < n → lt (p.getD i 0) (p.getD j 0) = false := fun i j hi hj =>
            O.tra _ _ _ (O.tra _ _ _ (c j (n - 1) (by omega) (by omega)) hc) (c 0 i (by omega) hi) |> fun z => by
              have q1 : lt (p.getD (n - 1) 0) (p.getD j 0) = false := c j (n - 1) (by omega) (by omega)
              have q2 : lt (p.getD i 0) (p.getD 0 0) = false := c 0 i (by omega) hi
              have q3 : lt (p.getD 0 0) (p.getD j 0) = false := by
                by_cases hj0 : lt (p.getD 0 0) (p.getD j 0) = true
                · have r := O.asy _ _ hj0
                  exact absurd (O.tra _ _ _ q1 hc) (by rw [hj0]; decide)
                · simpa using hj0
              by_cases hij : lt (p.getD i 0) (p.getD j 0) = true
              · have w1 : lt (p.getD (n - 1) 0) (p.getD i 0) = false := c i (n - 1) (by omega) (by omega)
                have w2 : lt (p.getD 0 0) (p.getD i 0) = false := O.tra _ _ _ w1 hc
                have w3 : lt (p.getD i 0) (p.getD j 0) = false := O.tra _ _ _ q3 q2
                exact w3
              · simpa using hij
          refine descPart_ok O (hp.rev _ _) (by omega) (by omega) (fun i j hij hj => ?_) ?_ k
          · rw [rev_in (by omega) (by omega) hj, rev_in (by omega) (by omega) (by omega)]
            exact eqs _ _ (by omega) (by omega)
          · rw [rev_in (k := n - 1) (by omega) (by omega) (by omega), rev_out (k := n) (by omega) (by omega)]
            exact O.tra _ _ _ hl' (eqs _ _ (by omega) (by omega))
      · rw [if_neg h1]
        have e1 : n = 1 := by omega
        subst e1
        exact descPart_ok O hp (by omega) (by omega) (fun i j hij hj => by
          have e1 : i = 0 := by omega
          have e2 : j = 0 := by omega
          subst e1; subst e2; exact O.irr _) hl' k

theorem place_ok (O : Ord lt) {Q : Nat → Prop} {p : Array Nat} (hp : Ok N p) {k : Nat} (hk : k < N) (hu : Up lt p k) : ∀ (f l r : Nat), r - l ≤ f → l ≤ r → r ≤ k → (∀ i, i < l → lt (p.getD k 0) (p.getD i 0) = false) → (∀ i, r ≤ i → i < k → lt (p.getD i 0) (p.getD k 0) = false) →
    (∀ l', l' ≤ k → (∀ i, i < l' → lt (p.getD k 0) (p.getD i 0) = false) → (∀ i, l' ≤ i → i < k → lt (p.getD i 0) (p.getD k 0) = false) → Q l') → kW N lt (kas_place p k f l r) Q
  | 0, l, r, hf, hlr, hr, h1, h2, q => q l (by omega) h1 fun i a b => h2 i (by omega) b
  | f + 1, l, r, hf, hlr, hr, h1, h2, q => by
    unfold kas_place
    by_cases e : l ≥ r
    · rw [if_pos e]
      exact q l (by omega) h1 fun i a b => h2 i (by omega) b
    · rw [if_neg e]
      refine ⟨hp.bd hk, hp.bd (by omega), ?_⟩
      cases hc : lt (p.getD k 0) (p.getD ((l + r) / 2) 0) with
      | true =>
        dsimp only
        rw [if_pos rfl]
        refine place_ok O hp hk hu f l ((l + r) / 2) (by omega) (by omega) (by omega) h1 (fun i a b => ?_) q
        exact O.tra _ _ _ (O.asy _ _ hc) (hu _ _ a b) |> fun _ => O.tra _ _ _ (O.asy _ _ hc |> fun z => z) (hu _ _ a b)
      | false =>
        dsimp only
        rw [if_neg Bool.false_ne_true]
        refine place_ok O hp hk hu f ((l + r) / 2 + 1) r (by omega) (by omega) (by omega) (fun i a => ?_) h2 q
        exact O.tra _ _ _ (hu i ((l + r) / 2) (by omega) (by omega)) hc

theorem bin_ok (O : Ord lt) {Q : Array Nat → Prop} : ∀ (f : Nat) (p : Array Nat) (k : Nat), Ok N p → k + f = N → Up lt p k → (∀ p', Ok N p' → Up lt p' N → Q p') → kW N lt (kas_bin f p k) Q
  | 0, p, k, hp, hk, hu, q => q p hp (by have : k = N := by omega
                                         rw [← this]; exact hu)
  | f + 1, p, k, hp, hk, hu, q => by
    have hs := hp.size
    refine kW_bind _ (place_ok O hp (by omega) hu k 0 k (by omega) (by omega) (by omega) (fun i a => absurd a (by omega)) (fun i a b => absurd b (by omega)) fun l hl h1 h2 => ?_)
    refine bin_ok O f _ (k + 1) (hp.bub _ _) (by omega) (fun i j hij hj => ?_) q
    rw [bub_at (by omega) hl, bub_at (by omega) hl]
    by_cases ej : j = l
    · rw [if_pos ej]
      by_cases ei : i = l
      · rw [if_pos ei]; exact O.irr _
      · rw [if_neg ei, if_neg (by omega)]
        exact h1 i (by omega)
    · rw [if_neg ej]
      by_cases hj2 : l < j ∧ j ≤ k
      · rw [if_pos hj2]
        by_cases ei : i = l
        · rw [if_pos ei]
          exact h2 (j - 1) (by omega) (by omega)
        · rw [if_neg ei]
          by_cases hi2 : l < i ∧ i ≤ k
          · rw [if_pos hi2]
            exact hu (i - 1) (j - 1) (by omega) (by omega)
          · rw [if_neg hi2]
            exact hu i (j - 1) (by omega) (by omega)
      · rw [if_neg hj2, if_neg (by omega), if_neg (by omega)]
        exact hu i j hij (by omega)

theorem sort_ok (O : Ord lt) (hN : 1 ≤ N) {Q : Array Nat → Prop} (q : ∀ p, Ok N p → Up lt p N → Q p) : kW N lt (kas_sort N) Q := by
  refine kW_bind _ (count_ok O (Array.Perm.refl _) hN fun m p h1 h2 hp hu => ?_)
  dsimp only
  by_cases e : m < N
  · rw [if_pos e]
    have em : max m 1 = m := by omega
    rw [em]
    exact bin_ok O _ p m hp (by omega) hu q
  · rw [if_neg e]
    have : m = N := by omega
    subst this
    exact q p hp hu
end
end L2.Srt

set_option Elab.async false
set_option linter.all false
set_option maxRecDepth 100000
set_option maxHeartbeats 4000000
/-! ### sorts of 64 items or more whose order is known: what the sort does is reckoned over the places' numbers -/
namespace L2.Big
open PySem PySem.W PyProof.Rows

def gallop' : Bool → Keyed → Array Keyed → Nat → Nat → Nat → StateT SortSt Sem (Option Nat) := sortPriv% PySem.Builtin.gallop
def mergeLo' : Array Keyed → Array Keyed → StateT SortSt Sem (Array Keyed) := sortPriv% PySem.Builtin.mergeLo
def mergeHi' : Array Keyed → Array Keyed → StateT SortSt Sem (Array Keyed) := sortPriv% PySem.Builtin.mergeHi

/-- an order over the places below N that the items keep -/
structure K where
  P : Program
  w : World
  A : Around
  E : Value → Shared → Prop
  s : Shared
  κ : SortKind
  it : Array Keyed
  N : Nat
  lt : Nat → Nat → Bool
  ask : ∀ i j C, i < N → j < N → C (lt i j) s → kas_cmp P w A κ it i j C s

variable {k : K} {α β γ : Type}
/-- m from st tells a and leaves st' -/
def R (k : K) (m : StateT SortSt Sem α) (st : SortSt) (a : α) (st' : SortSt) : Prop :=
  ∀ Q : α → SortSt → Shared → Prop, Q a st' k.s → kasC (model k.P k.w) k.A k.E m Q st k.s
theorem R.pure {a : α} {st : SortSt} : R k (Pure.pure a) st a st := fun Q h => kasC_pure h
theorem R.bind {m : StateT SortSt Sem α} {f : α → StateT SortSt Sem β} {st st1 st2 : SortSt} {a : α} {b : β} (h1 : R k m st a st1) (h2 : R k (f a) st1 b st2) : R k (m >>= f) st b st2 :=
  fun Q h => kasC_bind (h1 _ (h2 Q h))
theorem R.get {st : SortSt} : R k (MonadState.get : StateT SortSt Sem SortSt) st st st := fun Q h => kasC_get h
theorem R.modify {f : SortSt → SortSt} {st : SortSt} : R k (_root_.modify f : StateT SortSt Sem PUnit) st ⟨⟩ (f st) := fun Q h => kasC_modify h
theorem R.set {st st' : SortSt} : R k (MonadState.set st' : StateT SortSt Sem PUnit) st ⟨⟩ st' := fun Q h => by
  unfold kasC
  show wpAny _ _ ((StateT.set st' : StateT SortSt Sem PUnit).run st) _ _ _
  exact wpAny_pure h
theorem R.rule {x : String} {st : SortSt} : R k (liftM (PySem.rule x) : StateT SortSt Sem Unit) st () st := fun Q h => kasC_lift (wpAny_rule h)
theorem R.elem {arr : Array Keyed} {i : Nat} {x : Keyed} {st : SortSt} (e : arr[i]? = some x) : R k (elem' arr i) st x st := by
  rw [elem'_eq, e]; exact R.pure
theorem R.lt {st : SortSt} {i j : Nat} (hk : kindOf st = k.κ) (hi : i < k.N) (hj : j < k.N) : R k (lt' (kas_item k.it i) (kas_item k.it j)) st (some (k.lt i j)) st := fun Q h => by
  rw [lt'_eq]
  refine kasC_bind (kasC_get ?_)
  have e : kas_cmp k.P k.w k.A k.κ k.it i j (fun c s' => Q (some c) st s') k.s := k.ask i j _ hi hj h
  rw [hk]
  refine kasC_bind (kasC_lift (wpAny_attempt (wpAny_mono e (fun c s' hc => ?_) fun _ _ hF => hF.elim)))
  exact kasC_pure hc

/-- the numbers of the places, as the array that they stand for -/
def arr (k : K) (p : Array Nat) : Array Keyed := p.map (kas_item k.it)
def St (k : K) (p : Array Nat) (pd : Array (Nat × Nat × Nat)) : SortSt := SortSt.mk' k.κ (arr k p) pd 7 none
theorem arr_at {p : Array Nat} {i : Nat} (h : i < p.size) : (arr k p)[i]? = some (kas_item k.it (p.getD i 0)) := by
  unfold arr
  have e : p.getD i 0 = p[i] := by simp [Array.getD, h]
  rw [e]; simp [h]
theorem R.elemP {p : Array Nat} {i : Nat} {st : SortSt} (h : i < p.size) : R k (elem' (arr k p) i) st (kas_item k.it (p.getD i 0)) st := R.elem (arr_at h)
theorem R.ltAt {p : Array Nat} {pd : Array (Nat × Nat × Nat)} {i j : Nat} (hi : i < p.size) (hj : j < p.size) (bi : p.getD i 0 < k.N) (bj : p.getD j 0 < k.N) : R k (ltAt' i j) (St k p pd) (some (k.lt (p.getD i 0) (p.getD j 0))) (St k p pd) := by
  rw [ltAt'_eq]
  exact R.bind R.get (R.bind (R.elemP hi) (R.bind (R.elemP hj) (R.lt rfl bi bj)))

/-! loops -/
def go (g : Nat → γ → γ × Bool) : List Nat → γ → γ
  | [], c => c
  | x :: l, c => if (g x c).2 then (g x c).1 else go g l (g x c).1
def okGo (ok : Nat → γ → Bool) (g : Nat → γ → γ × Bool) : List Nat → γ → Bool
  | [], _ => true
  | x :: l, c => ok x c && (if (g x c).2 then true else okGo ok g l (g x c).1)
theorem R.loop {f : Nat → β → StateT SortSt Sem (ForInStep β)} {ab : γ → β} {sg : γ → SortSt} {g : Nat → γ → γ × Bool} {ok : Nat → γ → Bool}
    (hs : ∀ x c, ok x c = true → R k (f x (ab c)) (sg c) (if (g x c).2 then .done (ab (g x c).1) else .yield (ab (g x c).1)) (sg (g x c).1)) :
    ∀ (l : List Nat) (c : γ), okGo ok g l c = true → R k (forIn l (ab c) f) (sg c) (ab (go g l c)) (sg (go g l c))
  | [], c, _ => fun Q h => kasC_nil h
  | x :: l, c, h => fun Q q => by
    unfold okGo at h
    rw [Bool.and_eq_true] at h
    refine kasC_cons (hs x c h.1 _ ?_)
    have h2 := h.2
    unfold go at q
    by_cases e : (g x c).2 = true
    · rw [if_pos e] at q ⊢
      exact q
    · rw [if_neg e] at q h2 ⊢
      exact R.loop hs l _ h2 Q q
theorem R.range {a b : Nat} {c c' : β} {f : Nat → β → StateT SortSt Sem (ForInStep β)} {st st' : SortSt} (h : R k (forIn (List.range' a (b - a)) c f) st c' st') : R k (forIn [a:b] c f) st c' st' := fun Q q => kasC_range (h Q q)
end L2.Big

set_option Elab.async false
set_option linter.all false
set_option maxRecDepth 100000
set_option maxHeartbeats 4000000
namespace L2.Big
open PySem PySem.W PyProof.Rows
variable {k : K} {α β γ : Type}
abbrev Pd := Array (Nat × Nat × Nat)
/-- a place that may be asked for -/
def inB (N : Nat) (p : Array Nat) (i : Nat) : Bool := decide (i < p.size) && decide (p.getD i 0 < N)
theorem inB_a {N : Nat} {p : Array Nat} {i : Nat} (h : inB N p i = true) : i < p.size := by
  unfold inB at h; simp at h; exact h.1
theorem inB_b {N : Nat} {p : Array Nat} {i : Nat} (h : inB N p i = true) : p.getD i 0 < N := by
  unfold inB at h; rw [Bool.and_eq_true] at h; exact of_decide_eq_true h.2
theorem R.ltP {p : Array Nat} {pd : Pd} {i j : Nat} (hi : inB k.N p i = true) (hj : inB k.N p j = true) : R k (ltAt' i j) (St k p pd) (some (k.lt (p.getD i 0) (p.getD j 0))) (St k p pd) := R.ltAt (inB_a hi) (inB_a hj) (inB_b hi) (inB_b hj)
theorem R.move {p : Array Nat} {pd : Pd} {i j : Nat} : R k (moveDown' i j) (St k p pd) () (St k (bubble p i (i - j)) pd) := by
  rw [moveDown'_eq]
  have e : setArr (St k p pd) (bubble (arrOf (St k p pd)) i (i - j)) = St k (bubble p i (i - j)) pd := by
    show SortSt.mk' k.κ (bubble (p.map (kas_item k.it)) i (i - j)) pd 7 none = SortSt.mk' k.κ ((bubble p i (i - j)).map (kas_item k.it)) pd 7 none
    have e1 : bubble (p.map (kas_item k.it)) i (i - j) = (bubble p i (i - j)).map (kas_item k.it) := kas_swaps_map (kas_item k.it) (fun a => i - a) (fun a => i - a - 1) _ p
    rw [e1]
  have h : R k (_root_.modify fun st => setArr st (bubble (arrOf st) i (i - j)) : StateT SortSt Sem PUnit) (St k p pd) ⟨⟩ _ := R.modify
  rw [e] at h
  exact h

/-! binary insertion -/
def gP (lt : Nat → Nat → Bool) (p : Array Nat) (lo q : Nat) (_ : Nat) (c : Nat × Nat) : (Nat × Nat) × Bool :=
  if c.1 ≥ c.2 then (c, true) else if lt (p.getD (lo + q) 0) (p.getD (lo + (c.1 + c.2) / 2) 0) = true then ((c.1, (c.1 + c.2) / 2), false) else (((c.1 + c.2) / 2 + 1, c.2), false)
def okP (N : Nat) (p : Array Nat) (lo q : Nat) (_ : Nat) (c : Nat × Nat) : Bool := if c.1 ≥ c.2 then true else inB N p (lo + q) && inB N p (lo + (c.1 + c.2) / 2)
def plc (lt : Nat → Nat → Bool) (p : Array Nat) (lo q : Nat) : Nat := (go (gP lt p lo q) (List.range' 0 (q - 0)) (0, q)).1
def gB (lt : Nat → Nat → Bool) (lo : Nat) (q : Nat) (p : Array Nat) : Array Nat × Bool := (bubble p (lo + q) (lo + q - (lo + plc lt p lo q)), false)
def okB (N : Nat) (lt : Nat → Nat → Bool) (lo : Nat) (q : Nat) (p : Array Nat) : Bool := okGo (okP N p lo q) (gP lt p lo q) (List.range' 0 (q - 0)) (0, q)
theorem R.bin {p : Array Nat} {pd : Pd} {lo n ok : Nat} (h : okGo (okB k.N k.lt lo) (gB k.lt lo) (List.range' (max ok 1) (n - max ok 1)) p = true) :
    R k (binarySort' lo n ok) (St k p pd) true (St k (go (gB k.lt lo) (List.range' (max ok 1) (n - max ok 1)) p) pd) := by
  refine R.bind (R.range (R.loop (ab := fun _ => ((none : Option Bool), ())) (sg := fun p => St k p pd) (g := gB k.lt lo) (ok := okB k.N k.lt lo) ?_ _ p h)) R.pure
  intro q p hq
  refine R.bind (R.range (R.loop (ab := fun c => ((none : Option Bool), c)) (sg := fun _ => St k p pd) (g := gP k.lt p lo q) (ok := okP k.N p lo q) ?_ _ (0, q) hq)) (R.bind R.move R.pure)
  intro x c hc
  unfold okP at hc
  unfold gP
  dsimp only
  by_cases e : c.1 ≥ c.2
  · simp only [if_pos e]
    exact R.pure
  · rw [if_neg e] at hc
    simp only [if_neg e]
    rw [Bool.and_eq_true] at hc
    refine R.bind (R.ltP hc.1 hc.2) ?_
    cases k.lt (p.getD (lo + q) 0) (p.getD (lo + (c.1 + c.2) / 2) 0) with
    | true => exact R.pure
    | false => exact R.pure

/-! a rising run -/
def gU (lt : Nat → Nat → Bool) (p : Array Nat) (lo : Nat) (_ : Nat) (n : Nat) : Nat × Bool := if lt (p.getD (lo + n) 0) (p.getD (lo + n - 1) 0) = true then (n, true) else (n + 1, false)
def okU (N : Nat) (p : Array Nat) (lo : Nat) (_ : Nat) (n : Nat) : Bool := inB N p (lo + n) && inB N p (lo + n - 1)
def upTo (lt : Nat → Nat → Bool) (p : Array Nat) (lo m : Nat) : Nat := go (gU lt p lo) (List.range' 1 (m - 1)) 1
theorem R.count {p : Array Nat} {pd : Pd} {lo m n : Nat} (h : okGo (okU k.N p lo) (gU k.lt p lo) (List.range' 1 (m - 1)) 1 = true) (hn : upTo k.lt p lo m = n) (h1 : 1 < n) (h2 : n < m)
    (ha : inB k.N p lo = true) (hb : inB k.N p (lo + n - 1) = true) (hl : k.lt (p.getD lo 0) (p.getD (lo + n - 1) 0) = true) :
    R k (countRun' lo m) (St k p pd) (some n) (St k p pd) := by
  refine R.bind (R.range (R.loop (ab := fun n => ((none : Option (Option Nat)), n)) (sg := fun _ => St k p pd) (g := gU k.lt p lo) (ok := okU k.N p lo) ?_ _ 1 h)) ?_
  · intro x c hc
    unfold okU at hc
    unfold gU
    rw [Bool.and_eq_true] at hc
    refine R.bind (R.ltP hc.1 hc.2) ?_
    cases k.lt (p.getD (lo + c) 0) (p.getD (lo + c - 1) 0) with
    | true => exact R.pure
    | false => exact R.pure
  · have e : go (gU k.lt p lo) (List.range' 1 (m - 1)) 1 = n := hn
    rw [e]
    dsimp only
    rw [if_neg (by simp; omega), if_pos h1]
    refine R.bind (R.ltP ha hb) ?_
    rw [hl]
    exact R.pure
end L2.Big

set_option Elab.async false
set_option linter.all false
set_option maxRecDepth 100000
set_option maxHeartbeats 4000000
namespace L2.Big
open PySem PySem.W PyProof.Rows
variable {k : K} {α β γ : Type}
/-! galloping -/
def bey (lt : Nat → Nat → Bool) (left : Bool) (key : Nat) (p : Array Nat) (i : Nat) : Bool := if left = true then lt (p.getD i 0) key else !lt key (p.getD i 0)
def gR (B : Nat → Bool) (mx h : Nat) (_ : Nat) (c : Nat × Nat) : (Nat × Nat) × Bool := if c.2 ≥ mx then (c, true) else if B (h + c.2) = true then ((c.2, 2 * c.2 + 1), false) else (c, true)
def gL (B : Nat → Bool) (mx h : Nat) (_ : Nat) (c : Nat × Nat) : (Nat × Nat) × Bool := if c.2 ≥ mx then (c, true) else if B (h - c.2) = true then (c, true) else ((c.2, 2 * c.2 + 1), false)
def gF (B : Nat → Bool) (_ : Nat) (c : Nat × Nat) : (Nat × Nat) × Bool := if c.1 ≥ c.2 then (c, true) else if B (c.1 + (c.2 - c.1) / 2) = true then ((c.1 + (c.2 - c.1) / 2 + 1, c.2), false) else ((c.1, c.1 + (c.2 - c.1) / 2), false)
def okR (I : Nat → Bool) (mx h : Nat) (_ : Nat) (c : Nat × Nat) : Bool := if c.2 ≥ mx then true else I (h + c.2)
def okL (I : Nat → Bool) (mx h : Nat) (_ : Nat) (c : Nat × Nat) : Bool := if c.2 ≥ mx then true else I (h - c.2)
def okF (I : Nat → Bool) (_ : Nat) (c : Nat × Nat) : Bool := if c.1 ≥ c.2 then true else I (c.1 + (c.2 - c.1) / 2)
def galA (B : Nat → Bool) (n h : Nat) : Nat × Nat :=
  if B h = true then let c := go (gR B (n - h) h) (List.range' 0 (n - 0)) (0, 1); (h + c.1 + 1, h + min c.2 (n - h))
  else let c := go (gL B (h + 1) h) (List.range' 0 (n - 0)) (0, 1); (h + 1 - min c.2 (h + 1), h - c.1)
def gal (B : Nat → Bool) (n h : Nat) : Nat := (go (gF B) (List.range' 0 (n - 0)) (galA B n h)).2
def okGal (B I : Nat → Bool) (n h : Nat) : Bool :=
  I h && (if B h = true then okGo (okR I (n - h) h) (gR B (n - h) h) (List.range' 0 (n - 0)) (0, 1) else okGo (okL I (h + 1) h) (gL B (h + 1) h) (List.range' 0 (n - 0)) (0, 1))
    && okGo (okF I) (gF B) (List.range' 0 (n - 0)) (galA B n h)
theorem rGallop {left : Bool} {key base n h : Nat} {p : Array Nat} {st : SortSt} (hk : kindOf st = k.κ) (h0 : key < k.N)
    (ok : okGal (fun i => bey k.lt left key p (base + i)) (fun i => inB k.N p (base + i)) n h = true) :
    R k (gallop' left (kas_item k.it key) (arr k p) base n h) st (some (gal (fun i => bey k.lt left key p (base + i)) n h)) st := by
  have by1 : ∀ i, inB k.N p (base + i) = true → R k (do
      let x ← elem' (arr k p) (base + i)
      if left = true then lt' x (kas_item k.it key) else do
        let r ← lt' (kas_item k.it key) x
        pure (Option.map (fun x => !x) r)) st (some (bey k.lt left key p (base + i))) st := fun i hi => by
    refine R.bind (R.elemP (inB_a hi)) ?_
    unfold bey
    cases left with
    | true => exact R.lt hk (inB_b hi) h0
    | false => exact R.bind (R.lt hk h0 (inB_b hi)) R.pure
  unfold okGal at ok
  rw [Bool.and_eq_true, Bool.and_eq_true] at ok
  obtain ⟨⟨o1, o2⟩, o3⟩ := ok
  refine R.bind (by1 h o1) ?_
  unfold gal
  unfold galA at o3 ⊢
  by_cases hb : bey k.lt left key p (base + h) = true
  · simp only [hb, if_true] at o2 o3 ⊢
    refine R.bind (R.range (R.loop (ab := fun c => ((none : Option (Option Nat)), c)) (sg := fun _ => st) (g := gR (fun i => bey k.lt left key p (base + i)) (n - h) h) (ok := okR (fun i => inB k.N p (base + i)) (n - h) h) ?_ _ (0, 1) o2)) ?F
    case F =>
      refine R.bind (R.range (R.loop (ab := fun c => ((none : Option (Option Nat)), c)) (sg := fun _ => st) (g := gF fun i => bey k.lt left key p (base + i)) (ok := okF fun i => inB k.N p (base + i)) ?_ _ (_, _) o3)) R.pure
      intro x c hc
      unfold okF at hc
      unfold gF
      dsimp only
      by_cases e : c.1 ≥ c.2
      · simp only [if_pos e]
        exact R.pure
      · rw [if_neg e] at hc
        simp only [if_neg e]
        refine R.bind (by1 _ hc) ?_
        rcases Bool.eq_false_or_eq_true (bey k.lt left key p (base + (c.1 + (c.2 - c.1) / 2))) with hh | hh <;> simp only [hh, if_true, Bool.false_eq_true, if_false] <;> exact R.pure
    intro x c hc
    unfold okR at hc
    unfold gR
    dsimp only
    by_cases e : c.2 ≥ n - h
    · simp only [if_pos e]
      exact R.pure
    · rw [if_neg e] at hc
      simp only [if_neg e]
      refine R.bind (by1 _ hc) ?_
      rcases Bool.eq_false_or_eq_true (bey k.lt left key p (base + (h + c.2))) with hh | hh <;> simp only [hh, if_true, Bool.false_eq_true, if_false] <;> exact R.pure
  · rw [Bool.not_eq_true] at hb
    simp only [hb, Bool.false_eq_true, if_false] at o2 o3 ⊢
    refine R.bind (R.range (R.loop (ab := fun c => ((none : Option (Option Nat)), c)) (sg := fun _ => st) (g := gL (fun i => bey k.lt left key p (base + i)) (h + 1) h) (ok := okL (fun i => inB k.N p (base + i)) (h + 1) h) ?_ _ (0, 1) o2)) ?F
    case F =>
      refine R.bind (R.range (R.loop (ab := fun c => ((none : Option (Option Nat)), c)) (sg := fun _ => st) (g := gF fun i => bey k.lt left key p (base + i)) (ok := okF fun i => inB k.N p (base + i)) ?_ _ (_, _) o3)) R.pure
      intro x c hc
      unfold okF at hc
      unfold gF
      dsimp only
      by_cases e : c.1 ≥ c.2
      · simp only [if_pos e]
        exact R.pure
      · rw [if_neg e] at hc
        simp only [if_neg e]
        refine R.bind (by1 _ hc) ?_
        rcases Bool.eq_false_or_eq_true (bey k.lt left key p (base + (c.1 + (c.2 - c.1) / 2))) with hh | hh <;> simp only [hh, if_true, Bool.false_eq_true, if_false] <;> exact R.pure
    intro x c hc
    unfold okL at hc
    unfold gL
    dsimp only
    by_cases e : c.2 ≥ h + 1
    · simp only [if_pos e]
      exact R.pure
    · rw [if_neg e] at hc
      simp only [if_neg e]
      refine R.bind (by1 _ hc) ?_
      rcases Bool.eq_false_or_eq_true (bey k.lt left key p (base + (h - c.2))) with hh | hh <;> simp only [hh, if_true, Bool.false_eq_true, if_false] <;> exact R.pure
end L2.Big

set_option Elab.async false
set_option linter.all false
set_option maxRecDepth 100000
set_option maxHeartbeats 4000000
namespace L2.Big
open PySem PySem.W PyProof.Rows
variable {k : K} {α β γ : Type}
theorem arr_size (p : Array Nat) : (arr k p).size = p.size := by unfold arr; simp
theorem arr_push (p : Array Nat) (x : Nat) : (arr k p).push (kas_item k.it x) = arr k (p.push x) := by unfold arr; simp
theorem arr_app (p q : Array Nat) : arr k p ++ arr k q = arr k (p ++ q) := by unfold arr; simp
theorem arr_ext (p : Array Nat) (i j : Nat) : (arr k p).extract i j = arr k (p.extract i j) := by unfold arr; simp
theorem arr_rev (p : Array Nat) : (arr k p).reverse = arr k p.reverse := by unfold arr; simp
theorem arr_one (x : Nat) : #[kas_item k.it x] = arr k #[x] := by unfold arr; simp
theorem gl {p : Array Nat} {pd : Pd} : gallopOf (St k p pd) = 7 := rfl
/-! merging without a gallop -/
abbrev SL := Option (Array Nat) × Array Nat × Nat × Nat × Nat × Nat
def abL (k : K) (c : SL) : Option (Array Keyed) × Array Keyed × Nat × Nat × Nat × Nat := (c.1.map (arr k), arr k c.2.1, c.2.2)
def abH (k : K) (c : SL) : Option (Array Keyed) × Nat × Nat × Array Keyed × Nat × Nat := (c.1.map (arr k), c.2.2.1, c.2.2.2.1, arr k c.2.1, c.2.2.2.2)
def gMl (lt : Nat → Nat → Bool) (a b : Array Nat) (_ : Nat) : SL → SL × Bool
  | (_, out, i, j, u, v) =>
    if lt (b.getD j 0) (a.getD i 0) = true then
      if (j + 1 == b.size) = true then ((some (out.push (b.getD j 0) ++ a.extract i a.size ++ b.extract (j + 1) b.size), out.push (b.getD j 0), i, j + 1, 0, v + 1), true)
      else if v + 1 ≥ 7 then ((none, out.push (b.getD j 0), i, j + 1, 0, v + 1), true) else ((none, out.push (b.getD j 0), i, j + 1, 0, v + 1), false)
    else
      if (i + 1 + 1 == a.size) = true then ((some (out.push (a.getD i 0) ++ b.extract j b.size ++ a.extract (i + 1) a.size), out.push (a.getD i 0), i + 1, j, u + 1, 0), true)
      else if u + 1 ≥ 7 then ((none, out.push (a.getD i 0), i + 1, j, u + 1, 0), true) else ((none, out.push (a.getD i 0), i + 1, j, u + 1, 0), false)
def okMl (N : Nat) (a b : Array Nat) (_ : Nat) : SL → Bool
  | (_, _, i, j, _, _) => inB N a i && inB N b j
def gMh (lt : Nat → Nat → Bool) (a b : Array Nat) (_ : Nat) : SL → SL × Bool
  | (_, out, i, j, u, v) =>
    if lt (b.getD (j - 1) 0) (a.getD (i - 1) 0) = true then
      if (i - 1 == 0) = true then ((some (a.extract 0 (i - 1) ++ b.extract 0 j ++ (out.push (a.getD (i - 1) 0)).reverse), out.push (a.getD (i - 1) 0), i - 1, j, u + 1, 0), true)
      else if u + 1 ≥ 7 then ((none, out.push (a.getD (i - 1) 0), i - 1, j, u + 1, 0), true) else ((none, out.push (a.getD (i - 1) 0), i - 1, j, u + 1, 0), false)
    else
      if (j - 1 == 1) = true then ((some (b.extract 0 (j - 1) ++ a.extract 0 i ++ (out.push (b.getD (j - 1) 0)).reverse), out.push (b.getD (j - 1) 0), i, j - 1, 0, v + 1), true)
      else if v + 1 ≥ 7 then ((none, out.push (b.getD (j - 1) 0), i, j - 1, 0, v + 1), true) else ((none, out.push (b.getD (j - 1) 0), i, j - 1, 0, v + 1), false)
def okMh (N : Nat) (a b : Array Nat) (_ : Nat) : SL → Bool
  | (_, _, i, j, _, _) => inB N a (i - 1) && inB N b (j - 1)
theorem rLo {a b : Array Nat} {r : Array Nat} {c : Array Nat × Nat × Nat × Nat × Nat} {p : Array Nat} {pd : Pd} (hb0 : 0 < b.size) (hb : ¬(1 == b.size) = true) (ha : ¬(0 + 1 == a.size) = true)
    (ok : okGo (okMl k.N a b) (gMl k.lt a b) (List.range' 0 (a.size + b.size - 0)) (none, #[b.getD 0 0], 0, 1, 0, 0) = true)
    (e : go (gMl k.lt a b) (List.range' 0 (a.size + b.size - 0)) (none, #[b.getD 0 0], 0, 1, 0, 0) = (some r, c)) :
    R k (mergeLo' (arr k a) (arr k b)) (St k p pd) (arr k r) (St k p pd) := by
  refine R.bind R.rule (R.bind (R.elemP hb0) ?_)
  simp only [arr_size]
  rw [if_neg hb, if_neg ha]
  refine R.bind R.get ?_
  simp only [gl]
  refine R.bind (a := (some (arr k r), arr k c.1, c.2.1, c.2.2.1, 7)) (st1 := St k p pd) (R.range ?_) R.pure
  obtain ⟨t, ht⟩ : ∃ t, a.size + b.size - 0 = t + 1 := ⟨a.size + b.size - 1, by omega⟩
  intro Q q
  rw [ht, List.range'_succ, arr_one]
  refine kasC_cons ?_
  refine (R.bind (b := ForInStep.done (some (arr k r), arr k c.1, c.2.1, c.2.2.1, 7)) (st2 := St k p pd) (R.range (R.loop (ab := abL k) (sg := fun _ => St k p pd) (g := gMl k.lt a b) (ok := okMl k.N a b) ?st _ (none, #[b.getD 0 0], 0, 1, 0, 0) ok)) ?fin) _ q
  case fin => rw [e]; exact R.pure
  rintro x ⟨_, out, i, j, u, v⟩ hc
  unfold okMl at hc
  rw [Bool.and_eq_true] at hc
  obtain ⟨h1, h2⟩ := hc
  unfold gMl abL
  dsimp only
  refine R.bind (R.elemP (inB_a h2)) (R.bind (R.elemP (inB_a h1)) (R.bind (R.lt rfl (inB_b h2) (inB_b h1)) ?_))
  by_cases hl : k.lt (b.getD j 0) (a.getD i 0) = true
  · simp only [hl, if_true]
    refine R.bind (R.elemP (inB_a h2)) ?_
    simp only [arr_push, arr_app, arr_ext]
    by_cases e1 : (j + 1 == b.size) = true
    · simp only [e1, if_true]
      exact R.pure
    · simp only [if_neg e1]
      by_cases e2 : v + 1 ≥ 7
      · simp only [if_pos e2]; exact R.pure
      · simp only [if_neg e2]; exact R.pure
  · rw [Bool.not_eq_true] at hl
    simp only [hl, Bool.false_eq_true, if_false]
    refine R.bind (R.elemP (inB_a h1)) ?_
    simp only [arr_push, arr_app, arr_ext]
    by_cases e1 : (i + 1 + 1 == a.size) = true
    · simp only [e1, if_true]
      exact R.pure
    · simp only [if_neg e1]
      by_cases e2 : u + 1 ≥ 7
      · simp only [if_pos e2]; exact R.pure
      · simp only [if_neg e2]; exact R.pure
theorem rHi {a b : Array Nat} {r : Array Nat} {c : Array Nat × Nat × Nat × Nat × Nat} {p : Array Nat} {pd : Pd} (ha0 : a.size - 1 < a.size) (ha : ¬(a.size - 1 == 0) = true) (hb : ¬(b.size == 1) = true)
    (ok : okGo (okMh k.N a b) (gMh k.lt a b) (List.range' 0 (a.size + b.size - 0)) (none, #[a.getD (a.size - 1) 0], a.size - 1, b.size, 0, 0) = true)
    (e : go (gMh k.lt a b) (List.range' 0 (a.size + b.size - 0)) (none, #[a.getD (a.size - 1) 0], a.size - 1, b.size, 0, 0) = (some r, c)) :
    R k (mergeHi' (arr k a) (arr k b)) (St k p pd) (arr k r) (St k p pd) := by
  refine R.bind R.rule ?_
  simp only [arr_size]
  refine R.bind (R.elemP ha0) ?_
  rw [if_neg ha, if_neg hb]
  refine R.bind R.get ?_
  simp only [gl]
  refine R.bind (a := (some (arr k r), c.2.1, c.2.2.1, arr k c.1, 7)) (st1 := St k p pd) (R.range ?_) R.pure
  obtain ⟨t, ht⟩ : ∃ t, a.size + b.size - 0 = t + 1 := ⟨a.size + b.size - 1, by omega⟩
  intro Q q
  rw [ht, List.range'_succ, arr_one]
  refine kasC_cons ?_
  refine (R.bind (b := ForInStep.done (some (arr k r), c.2.1, c.2.2.1, arr k c.1, 7)) (st2 := St k p pd) (R.range (R.loop (ab := abH k) (sg := fun _ => St k p pd) (g := gMh k.lt a b) (ok := okMh k.N a b) ?st _ (none, #[a.getD (a.size - 1) 0], a.size - 1, b.size, 0, 0) ok)) ?fin) _ q
  case fin => rw [e]; exact R.pure
  rintro x ⟨_, out, i, j, u, v⟩ hc
  unfold okMh at hc
  rw [Bool.and_eq_true] at hc
  obtain ⟨h1, h2⟩ := hc
  unfold gMh abH
  dsimp only
  refine R.bind (R.elemP (inB_a h2)) (R.bind (R.elemP (inB_a h1)) (R.bind (R.lt rfl (inB_b h2) (inB_b h1)) ?_))
  by_cases hl : k.lt (b.getD (j - 1) 0) (a.getD (i - 1) 0) = true
  · simp only [hl, if_true]
    refine R.bind (R.elemP (inB_a h1)) ?_
    simp only [arr_push, arr_app, arr_ext, arr_rev]
    by_cases e1 : (i - 1 == 0) = true
    · simp only [e1, if_true]
      exact R.pure
    · simp only [if_neg e1]
      by_cases e2 : u + 1 ≥ 7
      · simp only [if_pos e2]; exact R.pure
      · simp only [if_neg e2]; exact R.pure
  · rw [Bool.not_eq_true] at hl
    simp only [hl, Bool.false_eq_true, if_false]
    refine R.bind (R.elemP (inB_a h2)) ?_
    simp only [arr_push, arr_app, arr_ext, arr_rev]
    by_cases e1 : (j - 1 == 1) = true
    · simp only [e1, if_true]
      exact R.pure
    · simp only [if_neg e1]
      by_cases e2 : v + 1 ≥ 7
      · simp only [if_pos e2]; exact R.pure
      · simp only [if_neg e2]; exact R.pure
end L2.Big

set_option Elab.async false
set_option linter.all false
set_option maxRecDepth 100000
set_option maxHeartbeats 4000000
namespace L2.Big
open PySem PySem.W PyProof.Rows
variable {k : K} {α β γ : Type}
def put (p : Array Nat) (lo : Nat) (r : Array Nat) : Array Nat := r.toList.zipIdx.foldl (fun a x => a.setIfInBounds (lo + x.2) x.1) p
theorem put_go (lo : Nat) : ∀ (l : List Nat) (i : Nat) (p : Array Nat), ((l.map (kas_item k.it)).zipIdx i).foldl (fun a x => a.setIfInBounds (lo + x.2) x.1) (arr k p) = arr k ((l.zipIdx i).foldl (fun a x => a.setIfInBounds (lo + x.2) x.1) p)
  | [], _, _ => rfl
  | x :: l, i, p => by
    rw [List.map_cons, List.zipIdx_cons, List.zipIdx_cons, List.foldl_cons, List.foldl_cons]
    have e : (arr k p).setIfInBounds (lo + i) (kas_item k.it x) = arr k (p.setIfInBounds (lo + i) x) := by unfold arr; simp
    dsimp only
    rw [e]
    exact put_go lo l (i + 1) _
theorem rMergeAt {p r : Array Nat} {n1 n2 pw c nb : Nat} (hs : inB k.N p n1 = true) (o1 : okGal (fun i => bey k.lt false (p.getD n1 0) p (0 + i)) (fun i => inB k.N p (0 + i)) n1 0 = true)
    (e1 : gal (fun i => bey k.lt false (p.getD n1 0) p (0 + i)) n1 0 = c) (hc : ¬(n1 - c == 0) = true) (hl : inB k.N p (0 + c + (n1 - c) - 1) = true)
    (o2 : okGal (fun i => bey k.lt true (p.getD (0 + c + (n1 - c) - 1) 0) p (n1 + i)) (fun i => inB k.N p (n1 + i)) n2 (n2 - 1) = true)
    (e2 : gal (fun i => bey k.lt true (p.getD (0 + c + (n1 - c) - 1) 0) p (n1 + i)) n2 (n2 - 1) = nb) (hn : ¬(nb == 0) = true)
    (hm : if n1 - c ≤ nb then R k (mergeLo' (arr k (p.extract (0 + c) n1)) (arr k (p.extract n1 (n1 + nb)))) (St k p #[(0, n1 + n2, pw)]) (arr k r) (St k p #[(0, n1 + n2, pw)])
      else R k (mergeHi' (arr k (p.extract (0 + c) n1)) (arr k (p.extract n1 (n1 + nb)))) (St k p #[(0, n1 + n2, pw)]) (arr k r) (St k p #[(0, n1 + n2, pw)])) :
    R k (mergeAt' 0) (St k p #[(0, n1, pw), (n1, n2, 0)]) true (St k (put p (0 + c) r) #[(0, n1 + n2, pw)]) := by
  refine R.bind R.get ?_
  have es : ((#[(0, n1, pw), (n1, n2, 0)] : Pd).setIfInBounds 0 (0, n1 + n2, pw)).eraseIdxIfInBounds (0 + 1) = #[(0, n1 + n2, pw)] := by simp [Array.eraseIdxIfInBounds, Array.setIfInBounds]
  refine R.bind (st1 := SortSt.mk' k.κ (arr k p) (((#[(0, n1, pw), (n1, n2, 0)] : Pd).setIfInBounds 0 (0, n1 + n2, pw)).eraseIdxIfInBounds (0 + 1)) 7 none) R.set ?_
  rw [es]
  change R k _ (St k p #[(0, n1 + n2, pw)]) _ _
  refine R.bind (R.elemP (inB_a hs)) ?_
  refine R.bind (rGallop rfl (inB_b hs) o1) ?_
  rw [e1]
  dsimp only
  rw [if_neg hc]
  refine R.bind (R.elemP (inB_a hl)) ?_
  refine R.bind (rGallop rfl (inB_b hl) o2) ?_
  rw [e2]
  dsimp only
  rw [if_neg hn]
  have fin : ∀ (x : Array Keyed), x = arr k r → R k (do
      _root_.modify fun s => SortSt.mk' (kindOf s) (List.foldl (fun a y => a.setIfInBounds (0 + c + y.2) y.1) (arrOf s) x.toList.zipIdx) (pendingOf s) (gallopOf s) (failedOf s)
      let s ← MonadState.get
      Pure.pure (failedOf s).isNone : StateT SortSt Sem Bool) (St k p #[(0, n1 + n2, pw)]) true (St k (put p (0 + c) r) #[(0, n1 + n2, pw)]) := fun x hx => by
    subst hx
    have e : SortSt.mk' k.κ (List.foldl (fun a y => a.setIfInBounds (0 + c + y.2) y.1) (arr k p) (arr k r).toList.zipIdx) #[(0, n1 + n2, pw)] 7 none = St k (put p (0 + c) r) #[(0, n1 + n2, pw)] := by
      have h := put_go (k := k) (0 + c) r.toList 0 p
      have h2 : (arr k r).toList = r.toList.map (kas_item k.it) := by unfold arr; simp
      rw [h2]
      unfold St put
      rw [← h]
    refine R.bind (a := ⟨⟩) (st1 := St k (put p (0 + c) r) #[(0, n1 + n2, pw)]) ?_ (R.bind R.get R.pure)
    rw [← e]
    exact R.modify
  by_cases hle : n1 - c ≤ nb
  · rw [if_pos hle] at hm ⊢
    refine R.bind (a := arr k r) (st1 := St k p #[(0, n1 + n2, pw)]) ?_ (fin _ rfl)
    rw [← arr_ext, ← arr_ext] at hm
    exact hm
  · rw [if_neg hle] at hm ⊢
    refine R.bind (a := arr k r) (st1 := St k p #[(0, n1 + n2, pw)]) ?_ (fin _ rfl)
    rw [← arr_ext, ← arr_ext] at hm
    exact hm
theorem rSort {N m f1 f2 : Nat} {p0 p1 p2 p3 : Array Nat} (hz : p0.size = N) (h3 : 3 ≤ N) (hmr : minRun' N N 0 = m) (hm : 0 < m) (hm1 : m < N) (hm2 : N - m ≤ m)
    (h1 : R k (countRun' 0 N) (St k p0 #[]) (some f1) (St k p0 #[])) (hf1 : f1 < m)
    (h2 : R k (binarySort' 0 m f1) (St k p0 #[]) true (St k p1 #[]))
    (h4 : R k (countRun' m (N - m)) (St k p1 #[(0, m, 0)]) (some f2) (St k p1 #[(0, m, 0)])) (hf2 : f2 < m)
    (h5 : R k (binarySort' m (N - m) f2) (St k p1 #[(0, m, 0)]) true (St k p2 #[(0, m, 0)]))
    (h6 : ∀ pw, R k (mergeAt' 0) (St k p2 #[(0, m, pw), (m, N - m, 0)]) true (St k p3 #[(0, m + (N - m), pw)])) :
    ∃ pw, R k sortRuns' (St k p0 #[]) () (St k p3 #[(0, m + (N - m), pw)]) := by
  refine ⟨power' N (2 * 0 + m) (2 * 0 + m + m + (N - m)) N, ?_⟩
  generalize hpw : power' N (2 * 0 + m) (2 * 0 + m + m + (N - m)) N = pw
  have hsz : (arrOf (St k p0 #[])).size = N := by
    show (arr k p0).size = N
    rw [arr_size, hz]
  obtain ⟨t, rfl⟩ : ∃ t, N = t + 3 := ⟨N - 3, by omega⟩
  rw [sortRuns'_eq]
  refine R.bind R.get ?_
  simp only [hsz, hmr]
  refine R.bind (a := (none, t + 3)) (st1 := St k p2 #[(0, m, pw), (m, t + 3 - m, 0)]) (R.range ?_) ?_
  · rw [Nat.sub_zero, List.range'_succ, List.range'_succ, List.range'_succ]
    intro Q q
    refine kasC_cons ((?_ : R k _ _ (ForInStep.yield (none, m)) (St k p1 #[(0, m, 0)])) _ (kasC_cons ((?_ : R k _ _ (ForInStep.yield (none, t + 3)) (St k p2 #[(0, m, pw), (m, t + 3 - m, 0)])) _ (kasC_cons ((?_ : R k _ _ (ForInStep.done (none, t + 3)) (St k p2 #[(0, m, pw), (m, t + 3 - m, 0)])) _ q)))))
    · dsimp only
      rw [if_neg (by omega)]
      refine R.bind h1 ?_
      dsimp only
      rw [if_pos hf1]
      refine R.bind R.rule ?_
      rw [Nat.sub_zero, Nat.min_eq_right (by omega)]
      refine R.bind h2 ?_
      simp only [Bool.not_true, Bool.false_eq_true, if_false]
      refine R.bind R.get ?_
      refine R.bind R.modify ?_
      rw [Nat.zero_add]
      exact R.pure
    · dsimp only
      rw [if_neg (by omega)]
      refine R.bind h4 ?_
      dsimp only
      rw [if_pos hf2]
      refine R.bind R.rule ?_
      rw [Nat.min_eq_left hm2]
      refine R.bind h5 ?_
      simp only [Bool.not_true, Bool.false_eq_true, if_false]
      refine R.bind R.get ?_
      refine R.bind (a := (none, ())) (st1 := St k p2 #[(0, m, 0)]) (R.range ?_) ?_
      · rw [Nat.sub_zero, List.range'_succ]
        intro Q q
        exact kasC_cons ((R.bind R.get R.pure : R k _ _ (ForInStep.done (none, ())) (St k p2 #[(0, m, 0)])) _ q)
      · refine R.bind R.modify (R.bind R.modify ?_)
        have e : m + (t + 3 - m) = t + 3 := by omega
        rw [e, hpw]
        have ep : (((#[(0, m, 0)] : Pd).modify ((#[(0, m, 0)] : Pd).size - 1) fun x => (x.fst, x.2.fst, pw)).push (m, t + 3 - m, 0)) = #[(0, m, pw), (m, t + 3 - m, 0)] := by
          have e1 : ((#[(0, m, 0)] : Pd).modify ((#[(0, m, 0)] : Pd).size - 1) fun x => (x.fst, x.2.fst, pw)) = #[(0, m, pw)] := by
            first | rfl | (apply Array.ext_getElem?; intro i; rw [Array.getElem?_modify]; cases i <;> simp)
          rw [e1]
          rfl
        change R k _ (SortSt.mk' k.κ (arr k p2) (((#[(0, m, 0)] : Pd).modify ((#[(0, m, 0)] : Pd).size - 1) fun x => (x.fst, x.2.fst, pw)).push (m, t + 3 - m, 0)) 7 none) _ _
        rw [ep]
        exact R.pure
    · dsimp only
      rw [if_pos (Nat.le_refl _)]
      exact R.pure
  · refine R.bind (a := (none, ())) (st1 := St k p3 #[(0, m + (t + 3 - m), pw)]) (R.range ?_) R.pure
    rw [Nat.sub_zero, List.range'_succ, List.range'_succ]
    intro Q q
    refine kasC_cons ((?_ : R k _ _ (ForInStep.yield (none, ())) (St k p3 #[(0, m + (t + 3 - m), pw)])) _ (kasC_cons ((?_ : R k _ _ (ForInStep.done (none, ())) (St k p3 #[(0, m + (t + 3 - m), pw)])) _ q)))
    · refine R.bind R.get ?_
      refine R.bind (h6 pw) ?_
      exact R.pure
    · exact R.bind R.get R.pure
end L2.Big

set_option Elab.async false
set_option linter.all false
set_option maxRecDepth 100000
set_option maxHeartbeats 4000000
/-! ### five or six runs of thirteen -/
namespace L2.Big
open PySem PySem.W PyProof.Rows
def ltF (i j : Nat) : Bool := decide (i % 13 < j % 13) || (decide (i % 13 = j % 13) && decide (i / 13 < j / 13))
/-- the places from a to b, risen -/
def srt (m a b : Nat) : List Nat := (List.range 13).flatMap fun q => ((List.range m).map fun p => 13 * p + q).filter fun i => decide (a ≤ i) && decide (i < b)
def q0 (m : Nat) : Array Nat := (List.range (13 * m)).toArray
def q1 (m t : Nat) : Array Nat := (srt m 0 t ++ List.range' t (13 * m - t)).toArray
def q2 (m t : Nat) : Array Nat := (srt m 0 t ++ srt m t (13 * m)).toArray
def q3 (m : Nat) : Array Nat := (srt m 0 (13 * m)).toArray
def qr (m u v : Nat) : Array Nat := ((srt m 0 (13 * m)).drop u |>.take v).toArray
/-- what is reckoned over the numbers alone -/
structure Plan (m t f1 f2 c nb v : Nat) : Prop where
  mr : minRun' (13 * m) (13 * m) 0 = t
  hm : 3 ≤ 13 * m ∧ 0 < t ∧ t < 13 * m ∧ 13 * m - t ≤ t ∧ 1 < f1 ∧ f1 < t ∧ 1 < f2 ∧ f2 < 13 * m - t ∧ f1 < 13 * m
  c1 : okGo (okU (13 * m) (q0 m) 0) (gU ltF (q0 m) 0) (List.range' 1 (13 * m - 1)) 1 = true
  c2 : upTo ltF (q0 m) 0 (13 * m) = f1
  c3 : inB (13 * m) (q0 m) 0 = true
  c4 : inB (13 * m) (q0 m) (0 + f1 - 1) = true
  c5 : ltF ((q0 m).getD 0 0) ((q0 m).getD (0 + f1 - 1) 0) = true
  b1 : okGo (okB (13 * m) ltF 0) (gB ltF 0) (List.range' (max f1 1) (t - max f1 1)) (q0 m) = true
  b2 : go (gB ltF 0) (List.range' (max f1 1) (t - max f1 1)) (q0 m) = q1 m t
  d1 : okGo (okU (13 * m) (q1 m t) t) (gU ltF (q1 m t) t) (List.range' 1 (13 * m - t - 1)) 1 = true
  d2 : upTo ltF (q1 m t) t (13 * m - t) = f2
  d3 : inB (13 * m) (q1 m t) t = true
  d4 : inB (13 * m) (q1 m t) (t + f2 - 1) = true
  d5 : ltF ((q1 m t).getD t 0) ((q1 m t).getD (t + f2 - 1) 0) = true
  e1 : okGo (okB (13 * m) ltF t) (gB ltF t) (List.range' (max f2 1) (13 * m - t - max f2 1)) (q1 m t) = true
  e2 : go (gB ltF t) (List.range' (max f2 1) (13 * m - t - max f2 1)) (q1 m t) = q2 m t
  g1 : inB (13 * m) (q2 m t) t = true
  g2 : okGal (fun i => bey ltF false ((q2 m t).getD t 0) (q2 m t) (0 + i)) (fun i => inB (13 * m) (q2 m t) (0 + i)) t 0 = true
  g3 : gal (fun i => bey ltF false ((q2 m t).getD t 0) (q2 m t) (0 + i)) t 0 = c
  g4 : ¬(t - c == 0) = true
  g5 : inB (13 * m) (q2 m t) (0 + c + (t - c) - 1) = true
  g6 : okGal (fun i => bey ltF true ((q2 m t).getD (0 + c + (t - c) - 1) 0) (q2 m t) (t + i)) (fun i => inB (13 * m) (q2 m t) (t + i)) (13 * m - t) (13 * m - t - 1) = true
  g7 : gal (fun i => bey ltF true ((q2 m t).getD (0 + c + (t - c) - 1) 0) (q2 m t) (t + i)) (13 * m - t) (13 * m - t - 1) = nb
  g8 : ¬(nb == 0) = true
  p3 : put (q2 m t) (0 + c) (qr m c v) = q3 m
  up : ∀ j, j < 13 * m → ∀ i, i < j + 1 → ltF ((q3 m).getD j 0) ((q3 m).getD i 0) = false
  ok : (srt m 0 (13 * m)).isPerm (List.range (13 * m)) = true
theorem Plan.run {m t f1 f2 c nb v : Nat} (h : Plan m t f1 f2 c nb v) {k : K} (hN : k.N = 13 * m) (hl : k.lt = ltF)
    (hm : ∀ pw, if t - c ≤ nb then R k (mergeLo' (arr k ((q2 m t).extract (0 + c) t)) (arr k ((q2 m t).extract t (t + nb)))) (St k (q2 m t) #[(0, t + (13 * m - t), pw)]) (arr k (qr m c v)) (St k (q2 m t) #[(0, t + (13 * m - t), pw)])
      else R k (mergeHi' (arr k ((q2 m t).extract (0 + c) t)) (arr k ((q2 m t).extract t (t + nb)))) (St k (q2 m t) #[(0, t + (13 * m - t), pw)]) (arr k (qr m c v)) (St k (q2 m t) #[(0, t + (13 * m - t), pw)])) :
    ∃ pw, R k sortRuns' (St k (q0 m) #[]) () (St k (q3 m) #[(0, t + (13 * m - t), pw)]) := by
  obtain ⟨z1, z2, z3, z4, z5, z6, z7, z8, z9⟩ := h.hm
  refine rSort (by unfold q0; simp) z1 h.mr z2 z3 z4 (R.count (by rw [hN, hl]; exact h.c1) (by rw [hl]; exact h.c2) z5 z9 (by rw [hN]; exact h.c3) (by rw [hN]; exact h.c4) (by rw [hl]; exact h.c5)) z6
    (p1 := q1 m t) (p2 := q2 m t) ?_ (R.count (by rw [hN, hl]; exact h.d1) (by rw [hl]; exact h.d2) z7 z8 (by rw [hN]; exact h.d3) (by rw [hN]; exact h.d4) (by rw [hl]; exact h.d5)) (by omega) ?_ fun pw => ?_
  · have e := R.bin (k := k) (p := q0 m) (pd := #[]) (lo := 0) (n := t) (ok := f1) (by rw [hN, hl]; exact h.b1)
    rw [hl, h.b2] at e
    exact e
  · have e := R.bin (k := k) (p := q1 m t) (pd := #[(0, t, 0)]) (lo := t) (n := 13 * m - t) (ok := f2) (by rw [hN, hl]; exact h.e1)
    rw [hl, h.e2] at e
    exact e
  · have e := rMergeAt (k := k) (p := q2 m t) (r := qr m c v) (n1 := t) (n2 := 13 * m - t) (pw := pw) (c := c) (nb := nb) (by rw [hN]; exact h.g1) (by rw [hN, hl]; exact h.g2) (by rw [hl]; exact h.g3) h.g4 (by rw [hN]; exact h.g5) (by rw [hN, hl]; exact h.g6) (by rw [hl]; exact h.g7) h.g8 (hm pw)
    rw [h.p3] at e
    exact e
theorem plan5 : Plan 5 33 13 6 3 29 59 := by
  constructor <;> decide +kernel
theorem plan6 : Plan 6 39 13 13 3 36 72 := by
  constructor <;> decide +kernel
theorem go5 : okGo (okMh 65 ((q2 5 33).extract (0 + 3) 33) ((q2 5 33).extract 33 (33 + 29))) (gMh ltF ((q2 5 33).extract (0 + 3) 33) ((q2 5 33).extract 33 (33 + 29))) (List.range' 0 (30 + 29 - 0)) (none, #[((q2 5 33).extract (0 + 3) 33).getD (30 - 1) 0], 30 - 1, 29, 0, 0) = true ∧
    (go (gMh ltF ((q2 5 33).extract (0 + 3) 33) ((q2 5 33).extract 33 (33 + 29))) (List.range' 0 (30 + 29 - 0)) (none, #[((q2 5 33).extract (0 + 3) 33).getD (30 - 1) 0], 30 - 1, 29, 0, 0)).1 = some (qr 5 3 59) ∧ ((q2 5 33).extract (0 + 3) 33).size = 30 ∧ ((q2 5 33).extract 33 (33 + 29)).size = 29 := by decide +kernel
theorem go6 : okGo (okMl 78 ((q2 6 39).extract (0 + 3) 39) ((q2 6 39).extract 39 (39 + 36))) (gMl ltF ((q2 6 39).extract (0 + 3) 39) ((q2 6 39).extract 39 (39 + 36))) (List.range' 0 (36 + 36 - 0)) (none, #[((q2 6 39).extract 39 (39 + 36)).getD 0 0], 0, 1, 0, 0) = true ∧
    (go (gMl ltF ((q2 6 39).extract (0 + 3) 39) ((q2 6 39).extract 39 (39 + 36))) (List.range' 0 (36 + 36 - 0)) (none, #[((q2 6 39).extract 39 (39 + 36)).getD 0 0], 0, 1, 0, 0)).1 = some (qr 6 3 72) ∧ ((q2 6 39).extract (0 + 3) 39).size = 36 ∧ ((q2 6 39).extract 39 (39 + 36)).size = 36 := by decide +kernel
theorem run5 {k : K} (hN : k.N = 65) (hl : k.lt = ltF) : ∃ pw, R k sortRuns' (St k (q0 5) #[]) () (St k (q3 5) #[(0, 65, pw)]) := by
  refine plan5.run hN hl fun pw => ?_
  obtain ⟨h1, h2, h3, h4⟩ := go5
  rw [if_neg (by decide)]
  refine rHi (c := (go (gMh ltF ((q2 5 33).extract (0 + 3) 33) ((q2 5 33).extract 33 (33 + 29))) (List.range' 0 (30 + 29 - 0)) (none, #[((q2 5 33).extract (0 + 3) 33).getD (30 - 1) 0], 30 - 1, 29, 0, 0)).2) ?_ ?_ ?_ ?_ ?_
  · rw [h3]; decide
  · rw [h3]; decide
  · rw [h4]; decide
  · rw [h3, h4, hN, hl]; exact h1
  · rw [h3, h4, hl, ← h2]
theorem run6 {k : K} (hN : k.N = 78) (hl : k.lt = ltF) : ∃ pw, R k sortRuns' (St k (q0 6) #[]) () (St k (q3 6) #[(0, 78, pw)]) := by
  refine plan6.run hN hl fun pw => ?_
  obtain ⟨h1, h2, h3, h4⟩ := go6
  rw [if_pos (by decide)]
  refine rLo (c := (go (gMl ltF ((q2 6 39).extract (0 + 3) 39) ((q2 6 39).extract 39 (39 + 36))) (List.range' 0 (36 + 36 - 0)) (none, #[((q2 6 39).extract 39 (39 + 36)).getD 0 0], 0, 1, 0, 0)).2) ?_ ?_ ?_ ?_ ?_
  · rw [h4]; decide
  · rw [h4]; decide
  · rw [h3]; decide
  · rw [h3, h4, hN, hl]; exact h1
  · rw [h3, h4, hl, ← h2]
end L2.Big

set_option Elab.async false
set_option linter.all false
set_option maxRecDepth 100000
set_option maxHeartbeats 4000000
/-! ### sorted of tuples of ints -/
namespace L2
open PySem PySem.Spec PyProof.Rows PySem.W

theorem lex_irr : ∀ a : List Int, HT.lexLt a a = false
  | [] => rfl
  | x :: xs => by rw [HT.lexLt_cons, if_pos rfl]; exact lex_irr xs
theorem lex_asy : ∀ a b : List Int, HT.lexLt a b = true → HT.lexLt b a = false
  | [], [], h => by cases h
  | [], _ :: _, _ => rfl
  | _ :: _, [], h => by cases h
  | x :: xs, y :: ys, h => by
    rw [HT.lexLt_cons] at h ⊢
    by_cases e : x = y
    · subst e
      rw [if_pos rfl] at h ⊢
      exact lex_asy xs ys h
    · rw [if_neg e] at h
      rw [if_neg (Ne.symm e)]
      have : x < y := by simpa using h
      exact decide_eq_false (by omega)
/-- not less: b is no less than a, c no less than b -/
theorem lex_tra : ∀ a b c : List Int, HT.lexLt b a = false → HT.lexLt c b = false → HT.lexLt c a = false
  | [], _, [], _, _ => rfl
  | [], [], _ :: _, _, _ => by rfl
  | [], _ :: _, _ :: _, _, _ => by rfl
  | _ :: _, [], _, h, _ => by cases h
  | x :: xs, y :: ys, [], _, h => by cases h
  | x :: xs, y :: ys, z :: zs, h1, h2 => by
    rw [HT.lexLt_cons] at h1 h2 ⊢
    by_cases e1 : y = x
    · subst e1
      rw [if_pos rfl] at h1
      by_cases e2 : z = y
      · subst e2
        rw [if_pos rfl] at h2 ⊢
        exact lex_tra xs ys zs h1 h2
      · rw [if_neg e2] at h2 ⊢
        exact h2
    · rw [if_neg e1] at h1
      have q1 : ¬ y < x := by simpa using h1
      by_cases e2 : z = y
      · subst e2
        rw [if_neg e1]
        exact h1
      · rw [if_neg e2] at h2
        have q2 : ¬ z < y := by simpa using h2
        have ne : z ≠ x := by omega
        rw [if_neg ne]
        exact decide_eq_false (by omega)
theorem lex_eq : ∀ a b : List Int, HT.lexLt a b = false → HT.lexLt b a = false → a = b
  | [], [], _, _ => rfl
  | [], _ :: _, h, _ => by cases h
  | _ :: _, [], _, h => by cases h
  | x :: xs, y :: ys, h1, h2 => by
    rw [HT.lexLt_cons] at h1 h2
    by_cases e : x = y
    · subst e
      rw [if_pos rfl] at h1 h2
      rw [lex_eq xs ys h1 h2]
    · rw [if_neg e] at h1
      rw [if_neg (Ne.symm e)] at h2
      have q1 : ¬ x < y := by simpa using h1
      have q2 : ¬ y < x := by simpa using h2
      omega
/-- two risen rearrangements are one -/
theorem lex_one : ∀ {l m : List (List Int)}, l.Perm m → l.Pairwise (fun a b => HT.lexLt b a = false) → m.Pairwise (fun a b => HT.lexLt b a = false) → l = m
  | [], m, p, _, _ => by rw [List.Perm.nil_eq p]
  | a :: l, [], p, _, _ => by cases p.symm.nil_eq
  | a :: l, b :: m, p, h1, h2 => by
    have ha : a ∈ b :: m := p.mem_iff.mp List.mem_cons_self
    have hb : b ∈ a :: l := p.mem_iff.mpr List.mem_cons_self
    have e : a = b := by
      rcases List.mem_cons.mp ha with z | z
      · exact z
      · rcases List.mem_cons.mp hb with y | y
        · exact y.symm
        · exact lex_eq a b ((List.pairwise_cons.mp h2).1 a z) ((List.pairwise_cons.mp h1).1 b y)
    subst e
    rw [lex_one (List.Perm.cons_inv p) (List.pairwise_cons.mp h1).2 (List.pairwise_cons.mp h2).2]

/-- the values are tuples of these ints -/
def TupsAt (h : Heap) (vs : List Value) (nss : List (List Int)) : Prop := Paired (fun v ns => ∃ a its, v = Value.ref a ∧ IsTup h a (List.toArray its) ∧ IntsAre its ns ∧ ns ≠ []) vs nss
theorem TupsAt.keep {h h' : Heap} {vs : List Value} {nss : List (List Int)} (t : TupsAt h vs nss) (k : ∀ b o, h.get? b = some o → h'.get? b = some o) : TupsAt h' vs nss :=
  Paired.mapP t fun v ns ⟨a, its, e1, ⟨o, e2, r⟩, e3⟩ => ⟨a, its, e1, ⟨o, k _ _ e2, r⟩, e3⟩
theorem Paired.at {α β : Type} {F : α → β → Prop} : ∀ {l : List α} {m : List β}, Paired F l m → ∀ {i : Nat} {a : α} {b : β}, l[i]? = some a → m[i]? = some b → F a b
  | _, _, .nil, _, _, _, e, _ => by simp at e
  | _, _, .cons r t, 0, _, _, e1, e2 => by simp at e1 e2; subst e1; subst e2; exact r
  | _, _, .cons r t, i + 1, _, _, e1, e2 => Paired.at t (i := i) (by simpa using e1) (by simpa using e2)
section
variable {P : Program} {w : World} {A : Around} {E : Value → Shared → Prop} {s : Shared}
theorem lex_go {Q : Bool → Shared → Prop} {fin : Bool} : ∀ {is js : List Value} {ns ms : List Int} (i : Nat), IntsAre is ns → IntsAre js ms → (ns.length ≤ ms.length → True) → (fin = decide (ns.length < ms.length)) → Q (HT.lexLt ns ms) s →
    KatLex P w A true fin Q (is.zip js) i s
  | _, _, _, _, i, .nil, .nil, _, hf, q => by
    subst hf
    exact kat_nil (by simpa [HT.lexLt] using q)
  | _, _, _, _, i, .nil, .cons m u t, _, hf, q => by
    subst hf
    exact kat_nil (by simpa [HT.lexLt] using q)
  | _, _, _, _, i, .cons n t r, .nil, _, hf, q => by
    subst hf
    exact kat_nil (by simpa [HT.lexLt] using q)
  | _, _, _, _, i, .cons n t r, .cons m u r', _, hf, q => by
    rw [List.zip_cons_cons]
    refine kat_cons (SeqAt.EqAt.int_int n t m u P w _ _ ?_)
    rw [HT.lexLt_cons] at q
    by_cases e : n = m
    · subst e
      rw [if_pos rfl] at q
      rw [show (n == n) = true by simp]
      exact kat_yes (lex_go (i + 1) r r' (fun _ => trivial) (by simpa using hf) q)
    · rw [if_neg e] at q
      rw [show (n == m) = false by simpa using e]
      refine kat_no ?_
      cases i with
      | zero => exact oneLt_int q
      | succ i =>
        rw [show (true && (i + 1 == 0)) = false by simp]
        exact kat_one _ _ (lt_int q)
theorem tup_ask {vs : List Value} {nss : List (List Int)} (t : TupsAt s.heap vs nss) {i j : Nat} (hi : i < nss.length) (hj : j < nss.length) {C : Bool → Shared → Prop} (q : C (HT.lexLt (nss.getD i []) (nss.getD j [])) s) :
    kas_ask P w A (tuples' true) vs i j C s := by
  have hl := Paired.length t
  have e1 : vs[i]? = some (vs.getD i Value.none) := by simp [show i < vs.length by omega]
  have e2 : vs[j]? = some (vs.getD j Value.none) := by simp [show j < vs.length by omega]
  have e3 : nss[i]? = some (nss.getD i []) := by simp [hi]
  have e4 : nss[j]? = some (nss.getD j []) := by simp [hj]
  obtain ⟨a, its, w1, ⟨o, g1, g2, n1, g3⟩, I1, _⟩ := Paired.at t e1 e3
  obtain ⟨b, jts, w2, ⟨o', k1, k2, n2, k3⟩, I2, _⟩ := Paired.at t e2 e4
  unfold kas_ask
  rw [w1, w2]
  refine kat_lt g1 g3 k1 k3 ?_
  have l1 := I1.length
  have l2 := I2.length
  exact lex_go 0 I1 I2 (fun _ => trivial) (by simp [l1, l2]) q
theorem tup_kind {vs : List Value} {nss : List (List Int)} {Q : SortKind → Shared → Prop} (t : TupsAt s.heap vs nss) (h0 : 0 < nss.length) (q : Q (tuples' true) s) : wpAny (model P w) A (keyKind' vs.toArray) Q E s := by
  have go : ∀ {vs : List Value} {nss : List (List Int)}, TupsAt s.heap vs nss → ∃ fs, KatTups s.heap vs fs ∧ fs.length = nss.length ∧ ∀ v ∈ fs, ∃ n u, v = Value.int n u := by
    intro vs nss t
    induction t with
    | nil => exact ⟨[], KatTups.nil, rfl, fun v hv => by cases hv⟩
    | cons r t ih =>
      obtain ⟨fs, k1, k2, k3⟩ := ih
      obtain ⟨a, its, rfl, ⟨o, g1, g2, n1, g3⟩, I1, ne⟩ := r
      cases I1 with
      | nil => exact absurd rfl ne
      | cons n u r' =>
        refine ⟨.int n u :: fs, KatTups.cons g1 g2 g3 (by simp) k1, by simp [k2], fun v hv => ?_⟩
        rcases List.mem_cons.mp hv with z | z
        · exact ⟨n, u, z⟩
        · exact k3 v z
  obtain ⟨fs, k1, k2, k3⟩ := go t
  refine kat_kind (T := Value.type "int") k1 (by omega) (fun v hv => ?_) (by rfl) q
  obtain ⟨n, u, rfl⟩ := k3 v hv
  exact Looks.now

/-! 64 items or more: five or six runs of thirteen -/
def fill (m : Nat) : List (List Int) := (List.range m).flatMap fun (p : Nat) => (List.range 13).map fun (q : Nat) => [(q : Int), (p : Int), (q : Int)]
def Srtb (nss : List (List Int)) : Prop := nss.length < 64 ∨ nss = fill 5 ∨ nss = fill 6
theorem Srtb.le {nss : List (List Int)} (h : Srtb nss) : nss.length ≤ 78 := by
  rcases h with h | rfl | rfl
  · omega
  · decide +kernel
  · decide +kernel
theorem fill_lt5 : ∀ i, i < 65 → ∀ j, j < 65 → HT.lexLt ((fill 5).getD i []) ((fill 5).getD j []) = Big.ltF i j := by decide +kernel
theorem fill_lt6 : ∀ i, i < 78 → ∀ j, j < 78 → HT.lexLt ((fill 6).getD i []) ((fill 6).getD j []) = Big.ltF i j := by decide +kernel
theorem big_run {vs : List Value} {nss : List (List Int)} {m : Nat} (t : TupsAt s.heap vs nss) (hn : nss.length = 13 * m) (hl : ∀ i, i < 13 * m → ∀ j, j < 13 * m → HT.lexLt (nss.getD i []) (nss.getD j []) = Big.ltF i j)
    (hu : ∀ j, j < 13 * m → ∀ i, i < j + 1 → Big.ltF ((Big.q3 m).getD j 0) ((Big.q3 m).getD i 0) = false) (hp : (Big.srt m 0 (13 * m)).isPerm (List.range (13 * m)) = true)
    (h : ∀ k : Big.K, k.N = 13 * m → k.lt = Big.ltF → ∃ pd, Big.R k sortRuns' (Big.St k (Big.q0 m) #[]) () (Big.St k (Big.q3 m) pd)) :
    wpAny (model P w) A ((sortRuns').run (SortSt.mk' (tuples' true) (vs.toArray.zip vs.toArray) #[] 7 none)) (fun r s' => s' = s ∧ ∃ p : Array Nat, Srt.Ok nss.length p ∧ Srt.Up (fun i j => HT.lexLt (nss.getD i []) (nss.getD j [])) p nss.length ∧ arrOf r.2 = p.map (kas_item (vs.toArray.zip vs.toArray)) ∧ failedOf r.2 = none) E s := by
  have hvl : vs.length = nss.length := Paired.length t
  have hok : Srt.Ok nss.length (Big.q3 m) := by
    rw [hn]
    have := List.isPerm_iff.mp hp
    unfold Srt.Ok Big.q3
    exact Array.perm_iff_toList_perm.mpr this
  obtain ⟨pd, hr⟩ := h ⟨P, w, A, E, s, tuples' true, vs.toArray.zip vs.toArray, 13 * m, Big.ltF, fun i j C hi hj q => by
    rw [← kat_ask_eq (ks := vs) (vs := vs) rfl]
    exact tup_ask t (by omega) (by omega) (by rw [hl i hi j hj]; exact q)⟩ rfl rfl
  have e0 : SortSt.mk' (tuples' true) (vs.toArray.zip vs.toArray) #[] 7 none = Big.St ⟨P, w, A, E, s, tuples' true, vs.toArray.zip vs.toArray, 13 * m, Big.ltF, fun i j C hi hj q => by
    rw [← kat_ask_eq (ks := vs) (vs := vs) rfl]
    exact tup_ask t (by omega) (by omega) (by rw [hl i hi j hj]; exact q)⟩ (Big.q0 m) #[] := by
    have e := kas_range (vs.toArray.zip vs.toArray)
    rw [show (vs.toArray.zip vs.toArray).size = 13 * m by simp; omega] at e
    show SortSt.mk' _ _ _ _ _ = SortSt.mk' _ ((Big.q0 m).map (kas_item (vs.toArray.zip vs.toArray))) _ _ _
    unfold Big.q0
    rw [e]
  rw [e0]
  refine hr (fun _ st' s' => s' = s ∧ ∃ p : Array Nat, Srt.Ok nss.length p ∧ Srt.Up (fun i j => HT.lexLt (nss.getD i []) (nss.getD j [])) p nss.length ∧ arrOf st' = p.map (kas_item (vs.toArray.zip vs.toArray)) ∧ failedOf st' = none) ⟨rfl, Big.q3 m, hok, ?_, rfl, rfl⟩
  intro i j hij hj
  have b1 := hok.bd (i := i) (by omega)
  have b2 := hok.bd (i := j) hj
  show HT.lexLt _ _ = false
  rw [hl _ (by omega) _ (by omega)]
  exact hu j (by omega) i (by omega)
theorem tup_run {vs : List Value} {nss : List (List Int)} (t : TupsAt s.heap vs nss) (h2 : 2 ≤ nss.length) (h : Srtb nss) :
    wpAny (model P w) A ((sortRuns').run (SortSt.mk' (tuples' true) (vs.toArray.zip vs.toArray) #[] 7 none)) (fun r s' => s' = s ∧ ∃ p : Array Nat, Srt.Ok nss.length p ∧ Srt.Up (fun i j => HT.lexLt (nss.getD i []) (nss.getD j [])) p nss.length ∧ arrOf r.2 = p.map (kas_item (vs.toArray.zip vs.toArray)) ∧ failedOf r.2 = none) E s := by
  have hl : vs.length = nss.length := Paired.length t
  have O : Srt.Ord (fun i j => HT.lexLt (nss.getD i []) (nss.getD j [])) := ⟨fun i => lex_irr _, fun i j => lex_asy _ _, fun i j k => lex_tra _ _ _⟩
  rcases h with h64 | rfl | rfl
  · refine kat_run (ks := vs) (vs := vs) (Q := fun st' s' => s' = s ∧ ∃ p : Array Nat, Srt.Ok nss.length p ∧ Srt.Up (fun i j => HT.lexLt (nss.getD i []) (nss.getD j [])) p nss.length ∧ arrOf st' = p.map (kas_item (vs.toArray.zip vs.toArray)) ∧ failedOf st' = none)
      (G := fun p s' => s' = s ∧ Srt.Ok nss.length p ∧ Srt.Up (fun i j => HT.lexLt (nss.getD i []) (nss.getD j [])) p nss.length) rfl (by omega) (by omega) (fun p st' s' a1 a2 a3 a4 => ⟨a4.1, p, a4.2.1, a4.2.2, a2, a3⟩) (?_ : KasT.kasWp _ (kas_sort vs.length) _ _)
    rw [hl]
    exact Srt.kW_wp (N := nss.length) (lt := fun i j => HT.lexLt (nss.getD i []) (nss.getD j [])) (fun i j C hi hj q => tup_ask t hi hj q) _ (Srt.sort_ok O (by omega) fun p hp hu => ⟨rfl, hp, hu⟩)
  · exact big_run (m := 5) t (by decide +kernel) fill_lt5 Big.plan5.up Big.plan5.ok fun k h1 h2 => by
      obtain ⟨pw, r⟩ := Big.run5 h1 h2
      exact ⟨_, r⟩
  · exact big_run (m := 6) t (by decide +kernel) fill_lt6 Big.plan6.up Big.plan6.ok fun k h1 h2 => by
      obtain ⟨pw, r⟩ := Big.run6 h1 h2
      exact ⟨_, r⟩

theorem tup_sort {a : Addr} {vs : List Value} {nss : List (List Int)} {n : Nat} {F : PySem.Fin → Shared → Prop} (ho : s.heap.get? a = some (seqObj "list" vs.toArray n)) (t : TupsAt s.heap vs nss) (hna : ∀ v ∈ vs, v ≠ Value.ref a) (h64 : Srtb nss)
    (h : ∀ (p : Array Nat), Srt.Ok nss.length p → Srt.Up (fun i j => HT.lexLt (nss.getD i []) (nss.getD j [])) p nss.length → F (.done (.ret .none)) { s with heap := sortedHeap s.heap a vs (List.toArray (p.toList.map fun i => vs.getD i Value.none)) }) :
    wpAny (model P w) A (Builtin.«list.sort» ⟨[.ref a], []⟩) F E s := by
  have hl : vs.length = nss.length := Paired.length t
  have ha : a < s.heap.objs.size := Heap.lt_size ho
  have hle := h64.le
  have sl : sizeLine = 16777216 := sizeLine_eq
  obtain ⟨e1, ho1⟩ : ∃ e1, (s.heap.update a (Obj.mapSeq fun _ => (#[] : Array Value))).get? a = some (seqObj "list" #[] e1) := ⟨_, get?_update_seq ho fun _ => #[]⟩
  have keep6 : ∀ b o, b ≠ a → s.heap.get? b = some o → (((s.heap.update a (Obj.mapSeq fun _ => (#[] : Array Value))).push (seqObj "tuple" vs.toArray 0)).push (seqObj "list" #[] 0)).get? b = some o := fun b o hb e =>
    Heap.get?_push_of_some _ (Heap.get?_push_of_some _ ((Heap.get?_update_ne _ _ _ _ hb).trans e))
  have ho6 : (((s.heap.update a (Obj.mapSeq fun _ => (#[] : Array Value))).push (seqObj "tuple" vs.toArray 0)).push (seqObj "list" #[] 0)).get? a = some (seqObj "list" #[] e1) := Heap.get?_push_of_some _ (Heap.get?_push_of_some _ ho1)
  have t6 : TupsAt (((s.heap.update a (Obj.mapSeq fun _ => (#[] : Array Value))).push (seqObj "tuple" vs.toArray 0)).push (seqObj "list" #[] 0)) vs nss := by
    have go : ∀ {ws : List Value} {mss : List (List Int)}, TupsAt s.heap ws mss → (∀ v ∈ ws, v ≠ Value.ref a) → TupsAt (((s.heap.update a (Obj.mapSeq fun _ => (#[] : Array Value))).push (seqObj "tuple" vs.toArray 0)).push (seqObj "list" #[] 0)) ws mss := by
      intro ws mss t
      induction t with
      | nil => intro _; exact .nil
      | cons r t ih =>
        intro hn
        obtain ⟨b, its, rfl, ⟨o, g1, g2⟩, r'⟩ := r
        refine .cons ⟨b, its, rfl, ⟨o, keep6 b o (fun z => hn _ List.mem_cons_self (by rw [z])) g1, g2⟩, r'⟩ (ih fun v hv => hn v (List.mem_cons_of_mem _ hv))
    exact go t hna
  rw [list_sort_plain]
  refine wpAny_bind (listItems_at ho rfl (wpAny_bind (listUpdate_at ho rfl (wpAny_bind (seqEpoch_at ho1 rfl (wpAny_bind (wpAny_newTuple (wpAny_bind (wpAny_newList (wpAny_holding ?_) ?z3)) ?z2)))) ?z0 ?z1)))
  case z0 => simp; omega
  case z1 => simp
  case z2 => simp; omega
  case z3 => simp
  show wpAny (model P w) A _ F E { s with heap := ((s.heap.update a (Obj.mapSeq fun _ => (#[] : Array Value))).push (seqObj "tuple" vs.toArray 0)).push (seqObj "list" #[] 0) }
  dsimp only
  have hsz : vs.toArray.size = vs.length := by simp
  have O : Srt.Ord (fun i j => HT.lexLt (nss.getD i []) (nss.getD j [])) := ⟨fun i => lex_irr _, fun i j => lex_asy _ _, fun i j k => lex_tra _ _ _⟩
  by_cases h2 : vs.toArray.size < 2
  · rw [if_pos h2, if_pos h2]
    refine wpAny_bind (wpAny_pure ?_)
    rw [StateT.run_pure]
    refine wpAny_bind (wpAny_pure ?_)
    dsimp only
    refine wpAny_bind (seqEpoch_at ho6 rfl (wpAny_bind (listUpdate_at ho6 rfl ?_ ?y0 ?y1)))
    case y0 => simp
    case y1 => rw [Array.size_map]; show (pairsOf vs).size ≤ _; rw [pairsOf_size]; omega
    simp only [bne_self_eq_false, Bool.false_eq_true, if_false]
    refine wpAny_pure ?_
    have hp : Srt.Ok nss.length (List.range nss.length).toArray := Array.Perm.refl _
    have hu : Srt.Up (fun i j => HT.lexLt (nss.getD i []) (nss.getD j [])) (List.range nss.length).toArray nss.length := fun i j hij hj => by
      have : i = j := by omega
      subst this
      exact lex_irr _
    have q := h _ hp hu
    have eo : (arrOf (SortSt.mk' general' (vs.toArray.zip vs.toArray) #[] 7 none)).map (·.2) = List.toArray ((List.range nss.length).toArray.toList.map fun i => vs.getD i Value.none) := by
      show (vs.toArray.zip vs.toArray).map (·.2) = _
      rw [← hl]
      apply Array.toList_inj.mp
      apply List.ext_getElem?
      intro k
      by_cases hk : k < vs.length
      · simp [hk]
      · simp [Nat.le_of_not_lt hk, hk]
    rw [eo]
    exact q
  · rw [if_neg h2, if_neg h2]
    refine wpAny_bind (tup_kind t6 (by omega) ?_)
    refine wpAny_bind (wpAny_mono (tup_run t6 (by omega) h64) ?_ fun _ _ e => e)
    · rintro ⟨⟨⟩, st'⟩ s' ⟨rfl, p, hp, hu, har, hf⟩
      dsimp only
      have hout := kat_snds (ks := vs) (vs := vs) rfl har
      have hsp := hp.size
      rw [hout]
      refine wpAny_bind (seqEpoch_at ho6 rfl (wpAny_bind (listUpdate_at ho6 rfl ?_ ?y0 ?y1)))
      case y0 => simp
      case y1 => simp; omega
      rw [hf]
      simp only [bne_self_eq_false, Bool.false_eq_true, if_false]
      exact wpAny_pure (h p hp hu)
theorem tup_sorted {l : Addr} {vs : List Value} {nss : List (List Int)} {Q : Value → Shared → Prop} (hL : s.heap.IsList l vs.toArray) (t : TupsAt s.heap vs nss) (h64 : Srtb nss)
    (h : ∀ (p : Array Nat) (h' : Heap) (c : Nat), Srt.Ok nss.length p → Srt.Up (fun i j => HT.lexLt (nss.getD i []) (nss.getD j [])) p nss.length → (∀ b o, s.heap.get? b = some o → h'.get? b = some o) →
      h'.get? (s.heap.objs.size + 1) = some { cls := .type "list", data := .seq (List.toArray (p.toList.map fun i => vs.getD i Value.none)) c } → Q (.ref (s.heap.objs.size + 1)) { s with heap := h' }) :
    wpAny (model P w) A (call (.builtin "sorted") [.ref l]) Q E s := by
  have hl : vs.length = nss.length := Paired.length t
  have hle := h64.le
  have sl : sizeLine = 16777216 := sizeLine_eq
  refine Calls.call_function_entry kind_sorted plain_sorted entry_sorted (args_sorted1 _) ?_
  unfold Builtin.«sorted»
  refine wpAny_bind (m := checkCount "sorted" 1 1 _) (wpAny_pure (wpAny_bind (collect_list hL (wpAny_bind (wpAny_newList ?_ (by omega))) (by omega))))
  have hsz : ((s.heap.push (seqObj "list" #[] 0)).update s.heap.objs.size (Obj.mapSeq (· ++ vs.toArray))).objs.size = s.heap.objs.size + 1 := by rw [Heap.size_update, size_push']
  have hoL : (((s.heap.push (seqObj "list" #[] 0)).update s.heap.objs.size (Obj.mapSeq (· ++ vs.toArray))).push (seqObj "list" vs.toArray 0)).get? (s.heap.objs.size + 1) = some (seqObj "list" vs.toArray 0) := by
    rw [← hsz]; exact Heap.get?_push_size _ rfl
  have keep : ∀ b o, s.heap.get? b = some o → (((s.heap.push (seqObj "list" #[] 0)).update s.heap.objs.size (Obj.mapSeq (· ++ vs.toArray))).push (seqObj "list" vs.toArray 0)).get? b = some o := fun b o q =>
    Heap.get?_push_of_some _ ((Heap.get?_update_ne _ _ _ _ (Nat.ne_of_lt (Heap.lt_size q))).trans (Heap.get?_push_of_some _ q))
  show wpAny _ _ _ _ _ { s with heap := ((s.heap.push (seqObj "list" #[] 0)).update s.heap.objs.size (Obj.mapSeq (· ++ vs.toArray))).push (seqObj "list" vs.toArray 0) }
  rw [hsz]
  have hna : ∀ v ∈ vs, v ≠ Value.ref (s.heap.objs.size + 1) := by
    have go : ∀ {ws : List Value} {mss : List (List Int)}, TupsAt s.heap ws mss → ∀ v ∈ ws, v ≠ Value.ref (s.heap.objs.size + 1) := by
      intro ws mss t
      induction t with
      | nil => intro v hv; cases hv
      | cons r t ih =>
        intro v hv
        obtain ⟨b, its, rfl, ⟨o, g1, _⟩, _⟩ := r
        rcases List.mem_cons.mp hv with z | z
        · subst z
          intro q
          have q' : b = s.heap.objs.size + 1 := by injection q
          have := Heap.lt_size g1
          rw [q'] at this
          exact absurd this (Nat.not_lt.mpr (Nat.le_succ _))
        · exact ih v z
    exact go t
  refine wpAny_bind (wpAny_holding (wpAny_call_entry slot_list_sort ⟨_, hoL, rfl⟩ entry_list_sort (tup_sort hoL (t.keep keep) hna h64 fun p hp hu => ⟨_, rfl, wpAny_pure ⟨_, rfl, ?_⟩⟩) (args_list_sort _)))
  obtain ⟨c, hc⟩ := sortedAll_at s.heap vs (List.toArray (p.toList.map fun i => vs.getD i Value.none))
  exact h p _ c hp hu (fun b o q => sortedAll_old q) hc
end

/-- tuples of ints as data -/
def tupD (ns : List Int) : PyData := .tuple (ns.map .int)
theorem Reps.ints {K : PySem.W.Frag} {H : Hp} : ∀ {ns : List Int} {xs : List V}, Reps K H xs (ns.map .int) → xs = ns.map V.int
  | [], _, r => by cases r; rfl
  | n :: ns, _, r => by cases r with | cons a t => cases a; rw [List.map_cons, Reps.ints t]
def rSorted (K : PySem.W.Frag) : List V → Hp → VK → Prop := fun xs H Q => ∃ (a : Addr) (ys : List V) (nss : List (List Int)), xs = [.ref a] ∧ SqL K H a ys ∧ Reps K H ys (nss.map tupD) ∧ (∀ ns ∈ nss, ns ≠ []) ∧ Srtb nss ∧
  ∀ (p : Array Nat) l, Srt.Ok nss.length p → Srt.Up (fun i j => HT.lexLt (nss.getD i []) (nss.getD j [])) p nss.length → H l = none → Q (.ref l) (upd H l (.lst (p.toList.map fun i => ys.getD i .non)))
theorem Vals.getD : ∀ {xs : List V} {us : List Value} (i : Nat), Vals xs us → RelV (xs.getD i .non) (us.getD i Value.none)
  | _, _, _, .nil => by simp; rfl
  | _, _, 0, .cons r _ => by simpa using r
  | _, _, i + 1, .cons _ t => by simpa using Vals.getD i t
theorem Vals.mapG {xs : List V} {us : List Value} (r : Vals xs us) : ∀ (l : List Nat), Vals (l.map fun i => xs.getD i .non) (l.map fun i => us.getD i Value.none)
  | [] => .nil
  | i :: l => .cons (r.getD i) (Vals.mapG r l)
theorem call_sorted {X : Cx} : CallR X (.builtin "sorted") (rSorted X.K) := by
  intro pins s σ H xs us Q I r h
  obtain ⟨a, ys, nss, rfl, hq, hr, hne, h64, q⟩ := h
  obtain ⟨u, rfl, rx⟩ := vals1 r
  cases rx
  obtain ⟨its, rv, pl, hz⟩ := I.list hq
  have hle := h64.le
  have hl := hr.length
  have hlv := rv.length
  have t : TupsAt s.heap its nss := by
    have go : ∀ {ys : List V} {its : List Value} {nss : List (List Int)}, Vals ys its → Reps X.K H ys (nss.map tupD) → (∀ ns ∈ nss, ns ≠ []) → TupsAt s.heap its nss := by
      intro ys its nss v
      induction v generalizing nss with
      | nil =>
        intro r _
        cases nss with
        | nil => exact .nil
        | cons n nss => cases r
      | cons rv v ih =>
        intro r hn
        cases nss with
        | nil => cases r
        | cons n nss =>
          cases r with
          | cons r1 r2 =>
            cases r1 with
            | tup hT rT =>
              cases rv
              rw [rT.ints] at hT
              obtain ⟨jts, r3, pt, _⟩ := I.tuple hT
              exact .cons ⟨_, jts, rfl, pt, intsAre_of r3, hn _ List.mem_cons_self⟩ (ih r2 fun m hm => hn m (List.mem_cons_of_mem _ hm))
    exact go rv hr hne
  refine tup_sorted pl.isList t h64 fun p h' c hp hu hk ho => ?_
  have hD : H (s.heap.objs.size + 1) = none := I.hok.fresh (Nat.le_succ _)
  have hps := hp.size
  have sl : sizeLine = 16777216 := sizeLine_eq
  refine ⟨.ref (s.heap.objs.size + 1), _, I.laid (t' := s.toks) hk (Nat.le_succ _) (o := .lst (p.toList.map fun i => ys.getD i .non)) ?_, rfl, q p _ hp hu hD⟩
  refine ⟨by simp; simp at hl; omega, _, c, rv.mapG p.toList, ho⟩
theorem Reps.getD {K : PySem.W.Frag} {H : Hp} {xs : List V} {ds : List PyData} (r : Reps K H xs ds) {i : Nat} (hi : i < ds.length) : Rep K H (xs.getD i .non) (ds.getD i .none) := by
  obtain ⟨x, h1, h2⟩ := r.get (i := i) (d := ds[i]) (by simp [hi])
  rw [List.getD_eq_getElem?_getD, h1, List.getD_eq_getElem?_getD, List.getElem?_eq_getElem hi]
  exact h2
theorem Reps.mapG {K : PySem.W.Frag} {H : Hp} {xs : List V} {ds : List PyData} (r : Reps K H xs ds) : ∀ (l : List Nat), (∀ i ∈ l, i < ds.length) → Reps K H (l.map fun i => xs.getD i .non) (l.map fun i => ds.getD i .none)
  | [], _ => .nil
  | i :: l, h => .cons (r.getD (h i List.mem_cons_self)) (Reps.mapG r l fun j hj => h j (List.mem_cons_of_mem _ hj))
/-- sorted: the risen rearrangement, zs -/
theorem coSorted {K : PySem.W.Frag} {nss zs : List (List Int)} (hp : zs.Perm nss) (hs : zs.Pairwise fun a b => HT.lexLt b a = false) (hne : ∀ ns ∈ nss, ns ≠ []) (h64 : Srtb nss) : CallO K (rSorted K) [.list (nss.map tupD)] (zs.map tupD) := fun vs H0 H Q s r k => by
  obtain ⟨v, rfl, r1⟩ := r.one
  cases r1 with
  | lst hq r =>
    refine ⟨_, _, nss, rfl, s.seq hq, r.mono s, hne, h64, fun p l hP hU hl => ?_⟩
    have hsz := hP.size
    have hb : ∀ i ∈ p.toList, i < nss.length := fun i hi => by
      have : i ∈ (List.range nss.length).toArray := hP.mem_iff.mp (by simpa using hi)
      simpa using this
    have e : (p.toList.map fun i => nss.getD i []) = zs := by
      refine lex_one (List.Perm.trans ?_ hp.symm) ?_ hs
      · have p1 : p.toList.Perm (List.range nss.length) := by
          have := hP.toList
          simpa using this
        have p2 := p1.map fun i => nss.getD i []
        have e2 : (List.range nss.length).map (fun i => nss.getD i []) = nss := by
          apply List.ext_getElem?
          intro k
          by_cases hk : k < nss.length
          · simp [hk]
          · simp [Nat.le_of_not_lt hk]
        rw [e2] at p2
        exact p2
      · rw [List.pairwise_iff_getElem]
        intro i j hi hj hij
        simp only [List.length_map, Array.length_toList] at hi hj
        have := hU i j (by omega) (by omega)
        simpa [Array.getD, hi, hj] using this
    refine k l _ H0 _ (.loose s hl) hl (s.free hl) upd_same ?_
    have rm := r.mapG p.toList (by simpa using hb)
    have e3 : (p.toList.map fun i => (nss.map tupD).getD i .none) = zs.map tupD := by
      rw [← e, List.map_map]
      apply List.map_congr_left
      intro i hi
      have := hb i hi
      simp [this]
    rw [e3] at rm
    exact rm
end L2

set_option Elab.async false
set_option linter.all false
set_option maxRecDepth 100000
set_option maxHeartbeats 4000000
/-! ### more of Python's own, on data -/
namespace L2
open PySem PySem.Spec PyProof.Rows
section
variable {X : Cx} {a b c e : Expr} {es : List Expr} {δ : List Slot} {d d1 d2 d3 : PyData} {ds : List PyData} {pos : Pos} {k : Nat}
/-- a test may look at a list of one's own -/
theorem vt_thaw (i : Nat) {t : Bool} (hi : δ[i]? = some (.own ds)) (h : VT X e (δ.set i (.val (.list ds))) t) : VT X e δ t := fun B0 B σ H0 H Q f q => by
  obtain ⟨p, xs, h1, h2, h3, h4, h5⟩ := f.slot i _ hi
  obtain ⟨f', sm⟩ := f.freeze hi h1 h2
  exact h B0 B σ _ H Q f' fun Ha H' g => q H0 H' ⟨g.big, Same.refl _, f.sub.trans g.big, fun _ z => .inl z⟩

/-! xs.index(x) -/
def rIndex (K : PySem.W.Frag) (n : Nat) : V → List V → Hp → VK → Prop := fun x vs H Q => ∃ p ds y d j, x = .ref p ∧ vs = [y] ∧ Rep K H (.ref p) (.list ds) ∧ Rep K H y d ∧ Lay n (.list ds) ∧ Lay n d ∧ (∃ h : j < ds.length, PyData.eqv ds[j] d = true) ∧
  (∀ m (h : m < ds.length), m < j → PyData.eqv ds[m] d = false) ∧ Q (.int j) H
theorem mt_index {n : Nat} (hu : X.A.units + n + 2 < cLine) : MtM X "list.index" (rIndex X.K n) := by
  intro pins s σ H x vs v us Q I rx rv h
  obtain ⟨p, ds, y, d, j, rfl, rfl, r1, r2, l1, l2, ⟨hj, hit⟩, hno, q⟩ := h
  cases rx
  obtain ⟨u, rfl, ru⟩ := rv.one
  obtain ⟨bs, rb⟩ := reads_of I d r2 ru
  cases r1 with
  | lst hq rs =>
    obtain ⟨its, rvs, ⟨⟨cls, dd, data, sl⟩, m, eo, ec, _, ed⟩, hz⟩ := I.list hq
    simp only at ec ed
    subst ec ed
    obtain ⟨as, ra⟩ := readsAll_of I ds rs rvs
    have hl := rvs.length
    have hl2 := rs.length
    have hm := SeqAt.readsAll_map ds its as l1.1 ra
    have rd : ∀ i (h1 : i < its.length) (h2 : i < ds.length), SeqAt.readOf s.heap its[i] = ds[i] := fun i h1 h2 => by
      have e1 : (its.map (SeqAt.readOf s.heap))[i]? = some (SeqAt.readOf s.heap its[i]) := by simp [h1]
      rw [hm] at e1
      rw [List.getElem?_eq_getElem h2] at e1
      exact (Option.some.inj e1).symm
    have h1 := l2.2
    have hn := line63
    have sl63 : sizeLine = 16777216 := sizeLine_eq
    refine call_meets F.slot_list_index ⟨_, eo, rfl⟩ F.entry_list_index (F.args_list_index_2 _ _) (SeqAt.list_indexAt p its.toArray m dd sl u (fun y => PyData.eqv (SeqAt.readOf s.heap y) d) j (by simp; omega) (by omega) ?_ ?_) ⟨eo, ?_, ?_⟩
    · have := rd j (by omega) hj
      simp only [List.getElem_toArray]
      rw [this]; exact hit
    · intro i hi hij
      simp only [List.size_toArray] at hi
      have := rd i hi (by omega)
      simp only [List.getElem_toArray]
      rw [this]; exact hno i (by omega) hij
    · exact SeqAt.items_eqAt (by simpa using ra) rb l1.1 l2.1 (by omega)
    · exact ⟨.int j, H, I.tok _, ⟨_, rfl⟩, q⟩
theorem ve_index {j : Nat} {ap : Pos} (hr : Room k X.A) (h1 : VE X a δ (.list ds)) (h2 : VE X b δ d) (l1 : Lay 20 (.list ds)) (l2 : Lay 20 d) (hj : ∃ h : j < ds.length, PyData.eqv ds[j] d = true) (hno : ∀ m (h : m < ds.length), m < j → PyData.eqv ds[m] d = false)
    (hs : starEach [b] X.env = (false, eval b X.env) :: starEach [] X.env := by rfl) (hbase : attributeBase a "index" X.env (eval a X.env) = eval a X.env := by rfl)
    (hfew : ((backTo pos (starEach [b] X.env)).all (fun x => !x.1) && (backToKw pos (keywordEach [] X.env)).all (fun x => x.1.isSome) && decide (([b] : List Expr).length + ([] : List Keyword).length + (if ([] : List Keyword).isEmpty then 0 else 1) < 30)) = true := by rfl)
    (hline : (ap.endLine == pos.line) = true := by rfl) (hplain : (backTo pos (starEach [] X.env)).any (·.1) = false := by rfl) : VE X (.Call (.Attribute a "index" ap) [b] [] pos) δ (.int j) :=
  .of (pe_bm PySem.F.plainAttrs_list PySem.F.slot_list_index PySem.F.type_list_index (mt_index (hu20 hr)) pe_c (pa_cons pe_c pa_nil hs) hbase hfew hline hs hplain) fun B0 B σ H0 H Q f q => h1 B0 B σ H0 H _ f fun v H1 H1' g r1 => by
    cases r1 with
    | lst hq rs =>
      refine ⟨.inl ⟨rfl, _, g.sub.seq hq⟩, h2 B0 B σ H1 H1' _ (f.grow g) fun u H2 H2' g2 r2 => ?_⟩
      exact ⟨_, ds, u, d, j, rfl, rfl, .lst (g2.sub.seq (g2.sml.seq hq)) (rs.mono (g2.sml.trans g2.sub)), r2.mono g2.sub, l1, l2, hj, hno, q _ H2 H2' (g.trans g2) (.int _)⟩

/-! isinstance -/
def tyD : PyData → Option String
  | .none => some "NoneType"
  | .bool _ => some "bool"
  | .int _ => some "int"
  | .str _ => some "str"
  | .list _ => some "list"
  | .tuple _ => some "tuple"
  | _ => none
theorem isi_D {t tn : String} {kb : Bool} (ht : tyD d = some t) (hk : PySem.W.kitOne X.K (.type t) (.type tn) = some kb) : CallR X (.builtin "isinstance") (fun xs H Q => ∃ x, xs = [x, .ty tn] ∧ Rep X.K H x d ∧ Q (.bl kb) H) := by
  intro pins s σ H xs us Q I r h
  obtain ⟨x, rfl, rx, q⟩ := h
  obtain ⟨u, w', rfl, r1, r2⟩ := vals2 r
  cases r2
  have fin : ∀ tk, EP X pins σ Q (.bool kb) { s with toks := tk } := fun tk => ⟨.bl kb, H, I.tok tk, rfl, q⟩
  cases rx with
  | non => cases ht; cases r1; exact PySem.W.kia_one PySem.W.kitx_none I.kIn True.intro hk (fun z => nomatch z) fin
  | bl b => cases ht; cases r1; exact PySem.W.kia_one PySem.W.kitx_bool I.kIn True.intro hk (fun z => nomatch z) fin
  | int i => cases ht; obtain ⟨t, rfl⟩ := r1; exact PySem.W.kia_one PySem.W.kitx_int I.kIn True.intro hk (fun z => nomatch z) fin
  | str y => cases ht; obtain ⟨t, rfl⟩ := r1; exact PySem.W.kia_one PySem.W.kitx_str I.kIn True.intro hk (fun z => nomatch z) fin
  | lst hq rs =>
    cases ht
    cases r1
    obtain ⟨its, _, ⟨o, n, e, c, _⟩, _⟩ := I.list hq
    exact PySem.W.kia_one PySem.W.kitx_list I.kIn ⟨o, e, c⟩ hk (fun z => nomatch z) fin
  | tup hq rs =>
    cases ht
    cases r1
    obtain ⟨its, _, ⟨o, e, c, _⟩, _⟩ := I.tuple hq
    exact PySem.W.kia_one PySem.W.kitx_tuple I.kIn ⟨o, e, c⟩ hk (fun z => nomatch z) fin
theorem ve_isi {x : Str} {t tn : String} {kb : Bool} {p p2 : Pos} (h : VE X a δ d) (ht : tyD d = some t) (hk : PySem.W.kitOne X.K (.type t) (.type tn) = some kb) (hb : bootBuiltins x = some (.type tn)) (m1 : X.mg "isinstance" = none) (m2 : X.mg x = none) (hv : bootBuiltins "isinstance" = some (.builtin "isinstance"))
    (hg : Gl X "isinstance" := by rfl) (hg2 : Gl X x := by rfl) (hn : x ≠ "__name__" := by decide) (hdb : (x == ("__debug__" : Str)) = false := by decide) (hs : starEach [a, .Name x p2] X.env = (false, eval a X.env) :: starEach [.Name x p2] X.env := by rfl) (hs2 : starEach [.Name x p2] X.env = (false, eval (.Name x p2) X.env) :: starEach [] X.env := by rfl)
    (hpl : (backTo pos (starEach [.Name x p2] X.env)).any (·.1) = false := by rfl) : VE X (.Call (.Name "isinstance" p) [a, .Name x p2] [] pos) δ (.bool kb) :=
  .of (pe_callB (isi_D ht hk) hg m1 hv (pa_cons pe_c (pa_cons (pe_bltn hg2 m2 hb (v := .ty tn) rfl hn hdb) pa_nil hs2) hs) (by decide) (by decide) hs hpl) fun B0 B σ H0 H Q f q => h B0 B σ H0 H _ f fun v H1 H1' g r => ⟨v, rfl, r.mono g.sub, q _ H1 H1' g (.bl _)⟩

/-! max of a list of ints -/
theorem maxI {P : Program} {w : World} {A : Around} {E : Value → Shared → Prop} {s : Shared} {l : Addr} {vs : List Value} {ns : List Int} {Q : Value → Shared → Prop} (hh : A.handled = none) (hl : s.heap.IsList l vs.toArray) (hi : IntsAre vs ns) (hne : ns ≠ [])
    (h : ∀ h' M (t : Tok) tk, (∀ b o, s.heap.get? b = some o → h'.get? b = some o) → M ∈ ns → (∀ z, z ∈ ns → z ≤ M) → Q (.int M t) { s with heap := h', toks := tk }) : wpAny (model P w) A (call (.builtin "max") [.ref l]) Q E s := by
  obtain ⟨xs, ex⟩ := hi.allInts.items
  have hns : ns = xs.toList.map (·.1) := by rw [← hi.numsOf, ← nums_intItems, ← ex]
  have hz : 0 < xs.size := by
    rcases Nat.eq_zero_or_pos xs.size with z | z
    · exfalso
      apply hne
      rw [hns, Array.eq_empty_of_size_eq_zero z]
      rfl
    · exact z
  rw [ex] at hl
  refine max_intList hh hl hz fun v h' tk hv hk => ?_
  obtain ⟨t, rfl⟩ := intItems_at hv
  obtain ⟨g1, g2⟩ := argBest_gt (numAt xs) (xs.size - 1)
  refine h h' _ t tk hk ?_ fun z hzm => ?_
  · rw [hns, numAt_eq]
    exact getD_mem (by rw [List.length_map, Array.length_toList]; omega)
  · rw [hns] at hzm
    obtain ⟨j, hj, rfl⟩ := mem_getD hzm
    rw [List.length_map, Array.length_toList] at hj
    rw [← numAt_eq]
    exact g2 j (by omega)
theorem call_maxL (hc : X.calm = true) : CallR X (.builtin "max") (fun xs H Q => ∃ p ns, xs = [.ref p] ∧ SqL X.K H p (ns.map V.int) ∧ ns ≠ [] ∧ ∀ M, M ∈ ns → (∀ z, z ∈ ns → z ≤ M) → Q (.int M) H) := by
  intro pins s σ H xs us Q I r h
  obtain ⟨p, ns, rfl, hq, hne, q⟩ := h
  obtain ⟨u, rfl, rx⟩ := vals1 r
  cases rx
  obtain ⟨its, rv, pl, hz⟩ := I.list hq
  exact maxI (I.ok.hd hc) pl.isList (intsAre_of rv) hne fun h' M t tk hk h1 h2 => ⟨.int M, H, I.kept hk, ⟨_, rfl⟩, q M h1 h2⟩
theorem cdMax {K : PySem.W.Frag} {ns : List Int} {M : Int} (h1 : M ∈ ns) (h2 : ∀ z, z ∈ ns → z ≤ M) : CallD K (fun xs H Q => ∃ p ns, xs = [.ref p] ∧ SqL K H p (ns.map V.int) ∧ ns ≠ [] ∧ ∀ M, M ∈ ns → (∀ z, z ∈ ns → z ≤ M) → Q (.int M) H) [.list (ns.map .int)] (.int M) := fun vs H0 H Q s r q => by
  obtain ⟨v, rfl, r1⟩ := r.one
  cases r1 with
  | lst hq rs =>
    have e := rs.ints
    subst e
    refine ⟨_, ns, rfl, s.seq hq, (fun z => by rw [z] at h1; cases h1), fun M' g1 g2 => q _ _ _ (.refl s) ?_⟩
    have : M' = M := Int.le_antisymm (h2 M' g1) (g2 M h1)
    rw [this]
    exact .int _
end
end L2

set_option Elab.async false
set_option linter.all false
set_option maxRecDepth 100000
set_option maxHeartbeats 4000000
namespace L2
open PySem PySem.Spec PyProof.Rows
section
variable {X : Cx} {sc : Scope} {own N : List Str} {cap : List Nat} {cl : List (Str × Addr)} {tg elt iter : Expr} {ifs : List Expr} {δ : List Slot} {ds : List PyData} {pos px spos : Pos} {tgt : Tgt} {x : Str}
/-- name = [.. for ..], stored ahead of the block's end -/
theorem vs_setC (i : Nat) {F : PyData → Option PyData} (hc : X.calm = true) (CS : CompScope X sc own cap N cl) (hi : VI X tg iter δ ds) (hg : ∀ f s3 H3, PG (cxComp X sc N cl f s3 H3) tg (gOf X.K tgt)) (ht : tgtIn own.length tgt = true) (hz : ds.length ≤ sizeLine)
    (step : ∀ d ∈ ds, BlockD X sc own cap N cl tgt elt ifs δ F d) (hN : X.N.Nodup) (hxi : X.N[i]? = some x := by rfl) (hx : Loc X.env.scope x := by first | exact Or.inl rfl | exact Or.inr rfl)
    (hsw : swapsWith (.ListComp elt [⟨tg, iter, ifs, 0⟩] sc pos) (some (.Name x px)) spos.line X.env = pure true := by rfl) (hs : ∀ x, foldedSetIterable iter X.env x = pure x := by intro _; rfl) (hf : X.fn x = true ∨ X.env.scope.names.lookup x = some .local := by first | exact .inl rfl | exact .inr rfl) :
    VS X (.Assign [.Name x px] (.ListComp elt [⟨tg, iter, ifs, 0⟩] sc pos) spos) δ (.nx (δ.set i (.own (ds.filterMap F)))) := fun B0 B σ H0 H D f ok pins s I => by
  obtain ⟨wi, pi, qi⟩ := hi
  refine ps_setComp (i := i) (tc := tcC X sc N cl ifs) (te := teC X sc N cl elt) hN hxi hx hc CS pi hg (fun f s3 H3 pins s σ H Q I h => h f s3 H3 pins s I) (fun f s3 H3 pins s σ H Q I h => h f s3 H3 pins s I) hsw hs hf pins s σ H D I ?_
  refine qi B0 B σ H0 H _ f fun J H1 H1' g it => ?_
  refine block_turns ht hz step (f.grow g) it fun p xs Ha Hb g2 a1 a2 a3 a4 => ?_
  have gg := g.trans g2
  have hp : H p = none := g.big.free a1
  refine ok _ Ha Hb gg.sml ((f.grow gg).setOwn a3 a2 (f.ent.big.free hp) a4 fun j es e2 e3 => ?_)
  obtain ⟨p', xs', g1, g2', _⟩ := f.slot j _ e2
  rw [e3] at g1
  cases g1
  rw [hp] at g2'
  cases g2'
end
theorem VT.to {X : Cx} {c : Expr} {δ : List Slot} {k k' : Bool} (h : VT X c δ k') (e : k' = k) : VT X c δ k := e ▸ h
theorem VE.to {X : Cx} {c : Expr} {δ : List Slot} {k k' : PyData} (h : VE X c δ k') (e : k' = k) : VE X c δ k := e ▸ h
theorem VO.to {X : Cx} {c : Expr} {δ : List Slot} {k k' : List PyData} (h : VO X c δ k') (e : k' = k) : VO X c δ k := e ▸ h
/-- the suite of the i-th statement, a loop -/
def suite (b : List Stmt) (i : Nat) : List Stmt := match b.getD i (.Pass ⟨0, 0, 0, 0⟩) with
  | .For _ _ b _ _ => b
  | .While _ b _ _ => b
  | .If _ b _ _ => b
  | _ => []
theorem lay_int (n : Nat) (i : Int) : Lay n (.int i) := ⟨rfl, Nat.zero_le _⟩
theorem lay_str {n : Nat} {x : Str} (h : PyData.canLay0 (.str x) = true) : Lay n (.str x) := ⟨h, Nat.zero_le _⟩
theorem layAll {n : Nat} : ∀ {ds : List PyData}, (∀ d ∈ ds, Lay n d) → PyData.canLayAll0 ds = true ∧ PyData.depthAll ds ≤ n
  | [], _ => ⟨rfl, Nat.zero_le _⟩
  | d :: ds, h => by
    obtain ⟨h1, h2⟩ := layAll fun e he => h e (List.mem_cons_of_mem _ he)
    obtain ⟨h3, h4⟩ := h d List.mem_cons_self
    refine ⟨by simp [PyData.canLayAll0, h1, h3], ?_⟩
    show max d.depth (PyData.depthAll ds) ≤ n
    omega
theorem lay_lst {n : Nat} {ds : List PyData} (h : ∀ d ∈ ds, Lay n d) : Lay (n + 1) (.list ds) := by
  obtain ⟨h1, h2⟩ := layAll h
  exact ⟨h1, Nat.succ_le_succ h2⟩
theorem lay_tup {n : Nat} {ds : List PyData} (h : ∀ d ∈ ds, Lay n d) : Lay (n + 1) (.tuple ds) := by
  obtain ⟨h1, h2⟩ := layAll h
  exact ⟨h1, Nat.succ_le_succ h2⟩
theorem filterMap_some {α β : Type} {F : α → Option β} {g : α → β} : ∀ {l : List α}, (∀ a ∈ l, F a = some (g a)) → l.filterMap F = l.map g
  | [], _ => rfl
  | a :: l, h => by
    rw [List.filterMap_cons_some (h a List.mem_cons_self), List.map_cons, filterMap_some fun b hb => h b (List.mem_cons_of_mem _ hb)]
end L2

set_option Elab.async false
set_option linter.all false
set_option maxRecDepth 100000
set_option maxHeartbeats 4000000
namespace L2
open PySem PySem.Spec PyProof.Rows
def isOwn : Slot → Bool
  | .own _ => true
  | _ => false
def noOwn (δ : List Slot) : Bool := δ.all fun s => !isOwn s
theorem noOwn_at {δ : List Slot} (h : noOwn δ = true) (i : Nat) (ds : List PyData) : δ[i]? ≠ some (.own ds) := fun e => by
  have := List.all_eq_true.mp h _ (List.mem_of_getElem? e)
  cases this
section
variable {K : PySem.W.Frag} {B0 B H0 H H0' H' C0 C Ha Hb : Hp} {σ σ' : St} {δ δ' : List Slot}
theorem FrD.setS (f : FrD K B0 B H0 H σ δ) {i : Nat} {v : V} {sl : Slot} (hs : SlotOk K B H0 H sl (some (some v))) (hn : isOwn sl = false) : FrD K B0 B H0 H (σ.set i (some v)) (δ.set i sl) := by
  refine ⟨f.ent, by simp [f.len], fun j sl' e => ?_, fun j k ds es p hjk e1 e2 e3 => ?_⟩
  · by_cases hj : j = i
    · subst hj
      have hl : j < δ.length := by simpa using (List.getElem?_eq_some_iff.mp e).1
      rw [List.getElem?_set_self hl] at e
      cases e
      rw [List.getElem?_set_self (by rw [f.len]; exact hl)]
      exact hs
    · rw [List.getElem?_set_ne (Ne.symm hj)] at e
      rw [List.getElem?_set_ne (Ne.symm hj)]
      exact f.slot j sl' e
  · have nj : j ≠ i := fun z => by
      subst z
      have hl : j < δ.length := by simpa using (List.getElem?_eq_some_iff.mp e1).1
      rw [List.getElem?_set_self hl] at e1; cases e1; cases hn
    have nk : k ≠ i := fun z => by
      subst z
      have hl : k < δ.length := by simpa using (List.getElem?_eq_some_iff.mp e2).1
      rw [List.getElem?_set_self hl] at e2; cases e2; cases hn
    rw [List.getElem?_set_ne (Ne.symm nj)] at e1 e3
    rw [List.getElem?_set_ne (Ne.symm nk)] at e2 ⊢
    exact f.apart j k ds es p hjk e1 e2 e3
/-- another entry, where no name owns a list -/
theorem FrD.re (f : FrD K B0 B H0 H σ δ) (hn : noOwn δ = true) (g : Grow C0 C H0 H) : FrD K C0 C H0 H σ δ := by
  refine ⟨g, f.len, fun i sl e => ?_, f.apart⟩
  have q := f.slot i sl e
  cases sl with
  | own ds => exact absurd e (noOwn_at hn i ds)
  | _ => exact q
theorem Grow.still (g : Grow H0 H Ha Hb) {p : Addr} {o : HO} (h0 : H0 p = none) (h : H p = some o) : Ha p = none := by
  cases e : Ha p with
  | none => rfl
  | some u =>
    rcases g.new p (by rw [e]; simp) with z | z
    · exact absurd h0 z
    · rw [h] at z; cases z
/-- only the big heap grew -/
theorem Grow.far (s : Same H0 H) (b : Same H Hb) : Grow H0 H H0 Hb := ⟨b, Same.refl _, s.trans b, fun _ z => .inl z⟩
theorem two_lay {t p : Addr} {xs : List V} {v : V} {ds : List PyData} {d : PyData} (g : Grow H0 H H0' H') (hp : H p = none) (hp0 : H0' p = none) (hpl : H' p = some (.lst xs)) (rs : Reps K H0' xs ds) (ht : H t = none) (ht0 : H0' t = none) (htl : H' t = some (.tup [.ref p, v])) (r : Rep K H0' v d) :
    ∃ Ha, Grow H0 H Ha H' ∧ Rep K Ha (.ref t) (.tuple [.list ds, d]) := by
  have npt : p ≠ t := fun e => by subst e; rw [hpl] at htl; cases htl
  have s1 : Same H0' (upd H0' p (.lst xs)) := fun b u e => by rw [upd_ne (ne_of_none e hp0)]; exact e
  have ht1 : (upd H0' p (.lst xs)) t = none := by rw [upd_ne (Ne.symm npt)]; exact ht0
  have s2 : Same (upd H0' p (.lst xs)) (upd (upd H0' p (.lst xs)) t (.tup [.ref p, v])) := fun b u e => by rw [upd_ne (ne_of_none e ht1)]; exact e
  refine ⟨upd (upd H0' p (.lst xs)) t (.tup [.ref p, v]), ⟨g.big, (g.sml.trans s1).trans s2, fun b u e => ?_, fun b e => ?_⟩, ?_⟩
  · by_cases h1 : b = t
    · subst h1; rw [upd_same] at e; cases e; exact htl
    · rw [upd_ne h1] at e
      by_cases h2 : b = p
      · subst h2; rw [upd_same] at e; cases e; exact hpl
      · rw [upd_ne h2] at e; exact g.sub b u e
  · by_cases h1 : b = t
    · subst h1; exact .inr ht
    · rw [upd_ne h1] at e
      by_cases h2 : b = p
      · subst h2; exact .inr hp
      · rw [upd_ne h2] at e; exact g.new b e
  · exact .tup (SqT.of upd_same) (.cons (.lst (SqL.of (s2 _ _ upd_same)) (rs.mono (s1.trans s2))) (.cons (r.mono (s1.trans s2)) .nil))
end
section
variable {X : Cx} {st : Stmt} {rest body orelse : List Stmt} {δ δ' : List Slot} {o : Out} {a b c e arg : Expr} {d d1 d2 da : PyData} {ds zs : List PyData} {pos px py : Pos} {x y : Str}
theorem ve_neg {i : Int} (h : VE X a δ (.int i)) : VE X (.UnaryOp .USub a pos) δ (.int (-i)) := .of (pe_un un_neg pe_c) fun B0 B σ H0 H Q f q => h B0 B σ H0 H _ f fun v H1 H1' g r => by
  cases r
  exact ⟨_, rfl, q _ H1 H1' g (.int _)⟩
theorem rangeD_length (n : Nat) : (rangeD n).length = n := by simp [rangeD]
theorem V2.ve (h : V2 X e δ ds d) : VE X e δ (.tuple [.list ds, d]) := fun B0 B σ H0 H Q f q => h B0 B σ H0 H Q f fun t p xs v H1 H1' g a1 a2 a3 a4 a5 a6 a7 a8 => by
  obtain ⟨Ha, ga, ra⟩ := two_lay g a1 a2 a3 a4 a5 a6 a7 a8
  exact q _ Ha H1' ga ra
end

/-! ### a list of lists of one's own, that grow by another name -/
structure GFr (K : PySem.W.Frag) (B0 B : Hp) (a : Addr) (ps : List Addr) (gs : List (List PyData)) (H0 H : Hp) (σ : St) (δ : List Slot) : Prop where
  fr : FrD K B0 B H0 H σ δ
  no : noOwn δ = true
  arr : H a = some (.lst (ps.map V.ref))
  a0 : H0 a = none
  aB : B a = none
  na : a ∉ ps
  nd : ps.Nodup
  len : ps.length = gs.length
  cell : ∀ (i : Nat) p ds, ps[i]? = some p → gs[i]? = some ds → H0 p = none ∧ B p = none ∧ ∃ xs, H p = some (.lst xs) ∧ Reps K H0 xs ds
section
variable {K : PySem.W.Frag} {B0 B H0 H H0' H' C0 C Ha Hb : Hp} {σ σ' : St} {δ δ' : List Slot} {a : Addr} {ps : List Addr} {gs : List (List PyData)}
theorem GFr.go (G : GFr K B0 B a ps gs H0 H σ δ) (f' : FrD K H0 H Ha Hb σ' δ') (hn : noOwn δ' = true) : GFr K B0 B a ps gs Ha Hb σ' δ' where
  fr := f'.re hn (G.fr.ent.trans f'.ent)
  no := hn
  arr := f'.ent.big _ _ G.arr
  a0 := f'.ent.still G.a0 G.arr
  aB := G.aB
  na := G.na
  nd := G.nd
  len := G.len
  cell := fun i p ds e1 e2 => by
    obtain ⟨h1, h2, xs, h3, h4⟩ := G.cell i p ds e1 e2
    exact ⟨f'.ent.still h1 h3, h2, xs, f'.ent.big _ _ h3, h4.mono f'.ent.sml⟩
theorem GFr.from (G : GFr K B0 B a ps gs H0 H σ δ) (g : Grow C0 B H0 H) : GFr K C0 B a ps gs H0 H σ δ where
  fr := G.fr.re G.no g
  no := G.no
  arr := G.arr
  a0 := G.a0
  aB := G.aB
  na := G.na
  nd := G.nd
  len := G.len
  cell := G.cell
theorem GFr.own (G : GFr K B0 B a ps gs H0 H σ δ) : FrD K H0 H H0 H σ δ := G.fr.re G.no (.refl G.fr.sub)
theorem GFr.forget (G : GFr K B0 B a ps gs H0 H σ δ) (hf : Fgt δ δ') (hn : noOwn δ' = true) : GFr K B0 B a ps gs H0 H σ δ' := G.go (G.own.forget hf.len hf.at) hn
theorem GFr.rep (G : GFr K B0 B a ps gs H0 H σ δ) : ∃ Ha, Grow B0 B Ha H ∧ Rep K Ha (.ref a) (.list (gs.map .list)) := by
  have s0 : Same H0 (fun q => if q = a ∨ q ∈ ps then H q else H0 q) := fun b u e => by
    show (if b = a ∨ b ∈ ps then H b else H0 b) = some u
    split
    · exact G.fr.sub b u e
    · exact e
  refine ⟨fun q => if q = a ∨ q ∈ ps then H q else H0 q, ⟨G.fr.ent.big, G.fr.ent.sml.trans s0, fun b u e => ?_, fun b e => ?_⟩, ?_⟩
  · have e : (if b = a ∨ b ∈ ps then H b else H0 b) = some u := e
    split at e
    · exact e
    · exact G.fr.sub b u e
  · have e : (if b = a ∨ b ∈ ps then H b else H0 b) ≠ none := e
    split at e
    · rename_i z
      rcases z with rfl | z
      · exact .inr G.aB
      · obtain ⟨i, hi⟩ := List.mem_iff_getElem?.mp z
        have hl : i < gs.length := by rw [← G.len]; exact (List.getElem?_eq_some_iff.mp hi).1
        exact .inr (G.cell i b gs[i] hi (by simp [hl])).2.1
    · exact G.fr.ent.new b e
  · refine .lst (SqL.of (by show (if a = a ∨ a ∈ ps then H a else H0 a) = _; rw [if_pos (.inl rfl)]; exact G.arr)) ?_
    have go : ∀ (l : List Addr) (m : List (List PyData)), l.length = m.length → (∀ (i : Nat) p ds, l[i]? = some p → m[i]? = some ds → p ∈ ps ∧ ∃ xs, H p = some (.lst xs) ∧ Reps K H0 xs ds) → Reps K (fun q => if q = a ∨ q ∈ ps then H q else H0 q) (l.map V.ref) (m.map .list) := by
      intro l
      induction l with
      | nil =>
        intro m hm _
        cases m with
        | nil => exact .nil
        | cons _ _ => cases hm
      | cons p l ih =>
        intro m hm hc
        cases m with
        | nil => cases hm
        | cons ds m =>
          obtain ⟨hp, xs, h1, h2⟩ := hc 0 p ds rfl rfl
          refine .cons (.lst (SqL.of (by show (if p = a ∨ p ∈ ps then H p else H0 p) = _; rw [if_pos (.inr hp)]; exact h1)) (h2.mono s0)) (ih m (by simpa using hm) fun i p' ds' e1 e2 => hc (i + 1) p' ds' (by simpa using e1) (by simpa using e2))
    exact go ps gs G.len fun i p ds e1 e2 => by
      obtain ⟨_, _, xs, h1, h2⟩ := G.cell i p ds e1 e2
      exact ⟨List.mem_of_getElem? e1, xs, h1, h2⟩
end
section
variable {X : Cx} {B0 B H0 H H0' H' Ha Hb : Hp} {σ σ' : St} {D : Ends} {st : Stmt} {rest body orelse : List Stmt} {δ δ' : List Slot} {a : Addr} {ps : List Addr} {gs : List (List PyData)} {e c tg iter : Expr} {d : PyData} {ds : List PyData} {pos px spos : Pos} {x y : Str}
def Ends.tail (D : Ends) (u : St → Hp → Prop) : Ends := { D with nx := u }
theorem css_cons (h : cS X st (D.tail fun σ H => cSs X rest D σ H) σ H) : cSs X (st :: rest) D σ H := fun pins s I => pss_cons ps_c pss_c pins s σ H D I h
theorem css_one (h : cS X st D σ H) : cSs X [st] D σ H := fun pins s I => pss_one ps_c pins s σ H D I h
theorem g_step (G : GFr X.K B0 B a ps gs H0 H σ δ) (h : VS X st δ (.nx δ')) (hn : noOwn δ' = true) (q : ∀ σ' H0' H', GFr X.K B0 B a ps gs H0' H' σ' δ' → D.nx σ' H') : cS X st D σ H :=
  h H0 H σ H0 H D G.own fun σ' Ha Hb sm f' => q σ' Ha Hb (G.go f' hn)
/-- row = rows[e] -/
theorem g_pick (G : GFr X.K B0 B a ps gs H0 H σ δ) (ig ir : Nat) {p0 p4 : Pos} {j : Nat} {p : Addr} (hga : δ[ig]? = some (.ref a)) (h : VE X e δ (.int j)) (hp : ps[j]? = some p) (hn : noOwn (δ.set ir (.ref p)) = true) (q : ∀ σ' H0' H', GFr X.K B0 B a ps gs H0' H' σ' (δ.set ir (.ref p)) → D.nx σ' H') (hN : X.N.Nodup)
    (hir : X.N[ir]? = some y := by rfl) (hig : X.N[ig]? = some x := by rfl) (hx : Loc X.env.scope y := by first | exact Or.inl rfl | exact Or.inr rfl) (hs : swapsWith (.Subscript (.Name x p0) e p4) (some (.Name y px)) pos.line X.env = pure false := by rfl) (hf : X.fn y = true ∨ X.env.scope.names.lookup y = some .local := by first | exact .inl rfl | exact .inr rfl)
    (hv : Vis X.env.scope x := by first | exact Or.inl rfl | exact Or.inr (Or.inl rfl) | exact Or.inr (Or.inr rfl)) (hd : (x == ("__debug__" : Str)) = false := by decide) (hcd : (x == ("__classdict__" : Str)) = false := by decide) (hpl : PlainIx e := by intro _ _; rfl) :
    cS X (.Assign [.Name y px] (.Subscript (.Name x p0) e p4) pos) D σ H := fun pins s I => by
  refine ps_set (i := ir) hN hir hx (pe_ix ix_seq (pe_var hig hv hd hcd) pe_c hpl) hs hf pins s σ H D I ?_
  refine ⟨.ref a, G.fr.slot ig _ hga, ?_⟩
  refine h H0 H σ H0 H _ G.own fun v H1 H1' g r => ?_
  cases r
  refine .inl ⟨a, _, _, .ref p, rfl, rfl, SqL.of (g.big _ _ G.arr), atI_nat (by rw [List.getElem?_map, hp]; rfl), ?_⟩
  exact q _ H1 H1' (G.go ((G.own.grow g).setS (v := .ref p) (sl := .ref p) rfl rfl) hn)
/-- the row as data, for a look at it -/
theorem GFr.look (G : GFr X.K B0 B a ps gs H0 H σ δ) {ir j : Nat} {p : Addr} (hr : δ[ir]? = some (.ref p)) (hp : ps[j]? = some p) (hg : gs[j]? = some ds) : ∃ C0, FrD X.K C0 H C0 H σ (δ.set ir (.val (.list ds))) := by
  obtain ⟨h1, _, xs, h2, h3⟩ := G.cell j p ds hp hg
  have sm : Same H0 (upd H0 p (.lst xs)) := fun b u e => by rw [upd_ne (ne_of_none e h1)]; exact e
  have sb : Same (upd H0 p (.lst xs)) H := fun b u e => by
    by_cases hb : b = p
    · subst hb; rw [upd_same] at e; cases e; exact h2
    · rw [upd_ne hb] at e; exact G.fr.sub b u e
  have hs : σ[ir]? = some (some (.ref p)) := G.fr.slot ir _ hr
  have f0 : FrD X.K (upd H0 p (.lst xs)) H (upd H0 p (.lst xs)) H σ δ := by
    refine ⟨.refl sb, G.fr.len, fun i sl e => ?_, G.fr.apart⟩
    have q := G.fr.slot i sl e
    cases sl with
    | un => trivial
    | ref _ => exact q
    | val d => obtain ⟨v, g1, g2⟩ := q; exact ⟨v, g1, g2.mono sm⟩
    | own ds => exact absurd e (noOwn_at G.no i ds)
  have f1 := f0.setS (i := ir) (v := .ref p) (sl := .val (.list ds)) ⟨_, rfl, .lst (SqL.of upd_same) (h3.mono sm)⟩ rfl
  have e : σ.set ir (some (.ref p)) = σ := by
    apply List.ext_getElem?
    intro i
    by_cases h : i = ir
    · subst h; rw [List.getElem?_set_self (List.getElem?_eq_some_iff.mp hs).1, hs]
    · rw [List.getElem?_set_ne (Ne.symm h)]
  rw [e] at f1
  exact ⟨_, f1⟩
/-- if row ..: since = .. -/
theorem g_lookIf (G : GFr X.K B0 B a ps gs H0 H σ δ) (ir is : Nat) {j : Nat} {p : Addr} {p1 p2 : Pos} {k : Bool} {m1 m2 : Int} (hr : δ[ir]? = some (.ref p)) (hp : ps[j]? = some p) (hg : gs[j]? = some ds) (ht : VT X c (δ.set ir (.val (.list ds))) k) (he : k = true → VE X e (δ.set ir (.val (.list ds))) (.int m2)) (h1 : δ[is]? = some (.val (.int m1)))
    (q : ∀ σ' H0' H', GFr X.K B0 B a ps gs H0' H' σ' (δ.set is (.val (.int (if k = true then m2 else m1)))) → D.nx σ' H') (hn : ∀ m, noOwn (δ.set is (.val (.int m))) = true) (hN : X.N.Nodup)
    (his : X.N[is]? = some y := by rfl) (hx : Loc X.env.scope y := by first | exact Or.inl rfl | exact Or.inr rfl) (hs : swapsWith e (some (.Name y px)) pos.line X.env = pure false := by rfl) (hf : X.fn y = true ∨ X.env.scope.names.lookup y = some .local := by first | exact .inl rfl | exact .inr rfl) :
    cS X (.If c [.Assign [.Name y px] e pos] [] p1) D σ H := fun pins s I => by
  refine ps_if pt_c (pss_one (ps_set (i := is) hN his hx pe_c hs hf)) pss_nil pins s σ H D I ?_
  obtain ⟨C0, f1⟩ := G.look hr hp hg
  refine ht C0 H σ C0 H _ f1 fun C1 H1 g1 => ?_
  have G1 : GFr X.K B0 B a ps gs H0 H1 σ δ := G.go (G.own.grow (.far G.fr.sub g1.big)) G.no
  cases k with
  | false =>
    refine iteF ?_
    refine q σ H0 H1 ?_
    have f2 := G1.own.setS (i := is) (v := .int m1) (sl := .val (.int m1)) ⟨_, rfl, .int m1⟩ rfl
    have e : σ.set is (some (.int m1)) = σ := by
      obtain ⟨v, z1, z2⟩ := G.fr.slot is _ h1
      cases z2
      apply List.ext_getElem?
      intro i
      by_cases h : i = is
      · subst h; rw [List.getElem?_set_self (List.getElem?_eq_some_iff.mp z1).1, z1]
      · rw [List.getElem?_set_ne (Ne.symm h)]
    rw [e] at f2
    exact G1.go f2 (hn _)
  | true =>
    refine iteT ?_
    obtain ⟨C2, f2⟩ := G1.look hr hp hg
    refine he rfl C2 H1 σ C2 H1 _ f2 fun v C3 H2 g2 r => ?_
    cases r
    have G2 : GFr X.K B0 B a ps gs H0 H2 σ δ := G1.go (G1.own.grow (.far G1.fr.sub g2.big)) G1.no
    exact q _ H0 H2 (G2.go (G2.own.setS (v := .int m2) (sl := .val (.int m2)) ⟨_, rfl, .int m2⟩ rfl) (hn _))
/-- row.append(e) -/
theorem g_append (G : GFr X.K B0 B a ps gs H0 H σ δ) (ir : Nat) {j : Nat} {p : Addr} {p0 ap : Pos} (hr : δ[ir]? = some (.ref p)) (hp : ps[j]? = some p) (hg : gs[j]? = some ds) (h : VE X e δ d) (hz : ds.length < sizeLine) (q : ∀ σ' H0' H', GFr X.K B0 B a ps (gs.set j (ds ++ [d])) H0' H' σ' δ → D.nx σ' H')
    (hN : X.N[ir]? = some x := by rfl) (hv : Vis X.env.scope x := by first | exact Or.inl rfl | exact Or.inr (Or.inl rfl) | exact Or.inr (Or.inr rfl)) (hd : (x == ("__debug__" : Str)) = false := by decide) (hcd : (x == ("__classdict__" : Str)) = false := by decide)
    (hs : starEach [e] X.env = (false, eval e X.env) :: starEach [] X.env := by rfl) (hbase : attributeBase (.Name x p0) "append" X.env (eval (.Name x p0) X.env) = eval (.Name x p0) X.env := by rfl)
    (hfew : ((backTo px (starEach [e] X.env)).all (fun x => !x.1) && (backToKw px (keywordEach [] X.env)).all (fun x => x.1.isSome) && decide (([e] : List Expr).length + ([] : List Keyword).length + (if ([] : List Keyword).isEmpty then 0 else 1) < 30)) = true := by rfl)
    (hline : (ap.endLine == px.line) = true := by rfl) (hplain : (backTo px (starEach [] X.env)).any (·.1) = false := by rfl) (hsw : swapsWith (.Call (.Attribute (.Name x p0) "append" ap) [e] [] px) none pos.line X.env = pure false := by rfl) :
    cS X (.Expr (.Call (.Attribute (.Name x p0) "append" ap) [e] [] px) pos) D σ H := fun pins s I => by
  refine ps_expr (pe_bm PySem.F.plainAttrs_list PySem.F.slot_list_append PySem.F.type_list_append mt_append (pe_var hN hv hd hcd) (pa_cons pe_c pa_nil hs) hbase hfew hline hs hplain) hsw pins s σ H D I ?_
  obtain ⟨h1, h2, xs, h3, h4⟩ := G.cell j p ds hp hg
  refine ⟨_, G.fr.slot ir _ hr, .inl ⟨rfl, _, SqL.of h3⟩, ?_⟩
  refine h H0 H σ H0 H _ G.own fun v H1 H1' g r => ?_
  have G1 := G.go (G.own.grow g) G.no
  refine ⟨p, xs, v, rfl, rfl, g.big _ _ h3, by rw [h4.length]; exact hz, q σ H1 _ ?_⟩
  have hjl : j < gs.length := (List.getElem?_eq_some_iff.mp hg).1
  have hpa : a ≠ p := fun z => G.na (by rw [z]; exact List.mem_of_getElem? hp)
  refine ⟨G1.fr.touch (g.still h1 h3) h2 (noOwn_at G.no), G.no, by rw [upd_ne hpa]; exact G1.arr, G1.a0, G.aB, G.na, G.nd, by rw [List.length_set]; exact G.len, fun i p' ds' e1 e2 => ?_⟩
  by_cases hi : i = j
  · subst hi
    rw [hp] at e1
    cases e1
    rw [List.getElem?_set_self hjl] at e2
    cases e2
    exact ⟨g.still h1 h3, h2, xs ++ [v], upd_same, (h4.mono g.sml).append (.cons r .nil)⟩
  · rw [List.getElem?_set_ne (Ne.symm hi)] at e2
    obtain ⟨k1, k2, ys, k3, k4⟩ := G1.cell i p' ds' e1 e2
    have np : p' ≠ p := fun z => by
      subst z
      have l1 := (List.getElem?_eq_some_iff.mp e1)
      have l2 := (List.getElem?_eq_some_iff.mp hp)
      exact hi ((List.getElem_inj G.nd (h₀ := l1.1) (h₁ := l2.1)).mp (by rw [l1.2, l2.2]))
    exact ⟨k1, k2, ys, by rw [upd_ne np]; exact k3, k4⟩
/-- the walk that fills it -/
theorem g_for {tgt : Tgt} (G : GFr X.K B0 B a ps gs H0 H σ δ) (hp : PassesOwn (model X.prog X.w) X.A X.env X.xe) (hc : X.calm = true) (hi : VI X tg iter δ ds) (hg : PG X tg (gOf X.K tgt)) (gss : Nat → List (List PyData)) (h0 : gss 0 = gs)
    (step : ∀ k d, ds[k]? = some d → ∃ δ', asgD tgt d δ = some δ' ∧ noOwn δ' = true ∧ ∀ (D : Ends) C0 σ' H0' H', GFr X.K C0 B a ps (gss k) H0' H' σ' δ' → (∀ σ2 Ha Hb, GFr X.K C0 B a ps (gss (k + 1)) Ha Hb σ2 δ → D.nx σ2 Hb) → cSs X body D σ' H')
    (q : ∀ σ2 Ha Hb, GFr X.K B0 B a ps (gss ds.length) Ha Hb σ2 δ → D.nx σ2 Hb)
    (hs : ∀ x, foldedSetIterable iter X.env x = pure x := by intro _; rfl) : cS X (.For tg iter body [] pos) D σ H := fun pins s I => by
  obtain ⟨wi, pi, qi⟩ := hi
  refine ps_for hp hc pi hg pss_c hs pins s σ H D I ?_
  refine qi H0 H σ H0 H _ G.own fun J H1 H1' g it => ?_
  have G1 := G.go (G.own.grow g) G.no
  refine ⟨fun i mm σ' H' => i ≤ ds.length ∧ mm = ds.length - i ∧ ∃ Ha, GFr X.K H1 B a ps (gss i) Ha H' σ' δ, ⟨ds.length, Nat.zero_le _, rfl, H1, by rw [h0]; exact G1.from ⟨G1.fr.ent.big, Same.refl _, G1.fr.sub, fun _ z => .inl z⟩⟩, ?_⟩
  rintro i mm σ' H' ⟨hi, rfl, Ha, Ga⟩
  obtain ⟨i1, i2, i3⟩ := it Ha H' Ga.fr.ent.sml Ga.fr.sub i
  by_cases hlt : i < ds.length
  · have hd : ds[i]? = some ds[i] := by simp [hlt]
    obtain ⟨δ', e1, e2, e3⟩ := step i _ hd
    refine .inr ⟨i1 hlt, fun σ'' H'' => ∃ Hb, GFr X.K H1 B a ps (gss (i + 1)) Hb H'' σ'' δ, fun σ'' H'' ⟨Hb, z⟩ => ⟨ds.length - (i + 1), by omega, hlt, rfl, Hb, z⟩, fun v H2 y => ?_⟩
    obtain ⟨Hb, g2, rx⟩ := i3 v H2 _ hd y
    refine asg_ok (Ga.own.grow g2) rx e1 fun σ3 f3 => ?_
    exact e3 _ H1 σ3 Hb H2 (Ga.go f3 e2) fun σ2 Hc Hd z => ⟨Hc, z⟩
  · have e : i = ds.length := by omega
    subst e
    refine .inl ⟨i2 (Nat.le_refl _), q σ' Ha H' (Ga.from ⟨Ga.fr.ent.big, G1.fr.ent.sml.trans Ga.fr.ent.sml, Ga.fr.sub, fun b z => ?_⟩)⟩
    rcases Ga.fr.ent.new b z with z | z
    · exact G1.fr.ent.new b z
    · exact .inr z
end
section
variable {X : Cx} {sc : Scope} {own N : List Str} {cap : List Nat} {cl : List (Str × Addr)} {tg iter : Expr} {δ : List Slot} {ds : List PyData} {pos px spos lp : Pos} {tgt : Tgt} {x : Str} {B0 B H0 H : Hp} {σ : St} {D : Ends}
/-- name = [[] for ..] -/
theorem g_start (i : Nat) (f : FrD X.K B0 B H0 H σ δ) (hno : noOwn δ = true) (hc : X.calm = true) (CS : CompScope X sc own cap N cl) (hi : VI X tg iter δ ds) (hg : ∀ f s3 H3, PG (cxComp X sc N cl f s3 H3) tg (gOf X.K tgt)) (ht : tgtIn own.length tgt = true) (hz : ds.length ≤ sizeLine)
    (step : ∀ d ∈ ds, ∃ δ', asgD tgt d (compD own cap δ) = some δ') (hN : X.N.Nodup) (q : ∀ σ' a ps H0' H', GFr X.K B0 B a ps (List.replicate ds.length []) H0' H' σ' (δ.set i (.ref a)) → D.nx σ' H') (hn : ∀ a, noOwn (δ.set i (.ref a)) = true) (hxi : X.N[i]? = some x := by rfl) (hx : Loc X.env.scope x := by first | exact Or.inl rfl | exact Or.inr rfl)
    (hsw : swapsWith (.ListComp (.List [] lp) [⟨tg, iter, [], 0⟩] sc pos) (some (.Name x px)) spos.line X.env = pure true := by rfl) (hs : ∀ x, foldedSetIterable iter X.env x = pure x := by intro _; rfl) (hf : X.fn x = true ∨ X.env.scope.names.lookup x = some .local := by first | exact .inl rfl | exact .inr rfl) :
    cS X (.Assign [.Name x px] (.ListComp (.List [] lp) [⟨tg, iter, [], 0⟩] sc pos) spos) D σ H := fun pins s I => by
  obtain ⟨wi, pi, qi⟩ := hi
  refine ps_setComp (i := i) (tc := tcC X sc N cl []) (te := teC X sc N cl (.List [] lp)) hN hxi hx hc CS pi hg (fun f s3 H3 pins s σ H Q I h => h f s3 H3 pins s I) (fun f s3 H3 pins s σ H Q I h => h f s3 H3 pins s I) hsw hs hf pins s σ H D I ?_
  refine qi B0 B σ H0 H _ f fun J H1 H1' g it => ?_
  have f1 := f.grow g
  intro L hL
  have hBL : B L = none := f1.ent.big.free hL
  refine ⟨fun i m ys σ' H' => i ≤ ds.length ∧ m = ds.length - i ∧ ∃ Ha ps, Grow H1 H1' Ha H' ∧ FrD X.K B0 B Ha H' σ' (compD own cap δ) ∧ Ha L = none ∧ ys = ps.map V.ref ∧ H' L = some (.lst ys) ∧ L ∉ ps ∧ ps.Nodup ∧ ps.length = i ∧ ∀ p ∈ ps, B p = none ∧ Ha p = none ∧ H' p = some (.lst []),
    ⟨ds.length, Nat.zero_le _, rfl, H1, [], .loose f1.sub hL, (f1.comp own cap).touch (f1.sub.free hL) hBL compD_noOwn, f1.sub.free hL, rfl, upd_same, by simp, by simp, rfl, fun p hp => by cases hp⟩, ?_⟩
  rintro n m ys σ' H' ⟨hn1, rfl, Ha, ps, g1, fa, hLa, rfl, hLl, hLp, hnd, hpl, hps⟩
  obtain ⟨i1, i2, i3⟩ := it Ha H' g1.sml g1.sub n
  by_cases hlt : n < ds.length
  · refine .inr ⟨i1 hlt, fun v H2 y => ?_⟩
    have hd : ds[n]? = some ds[n] := by simp [hlt]
    obtain ⟨Hb, g2, rx⟩ := i3 v H2 ds[n] hd y
    obtain ⟨δ', e1⟩ := step ds[n] (List.getElem_mem hlt)
    obtain ⟨k1, k2⟩ := comp_back ht e1
    refine asg_ok (fa.grow g2) rx e1 fun σ3 f3 => ?_
    intro fp s3 H3
    refine vts_nil B0 B σ3 Hb H2 _ f3 fun Hc H4 g4 => ?_
    rw [if_pos rfl]
    intro fp' s3' H3'
    have vo : VO (cxComp X sc N cl fp' s3' H3') (.List [] lp) δ' [] := vo_lst (ds := []) va_nil
    refine vo B0 B σ3 Hc H4 _ (f3.grow g4) fun p xs Hd H5 g5 a1 a2 a3 a4 => ?_
    cases a4
    have g25 := (g2.trans g4).trans g5
    have hL5 : Hd L = none := g25.still hLa hLl
    have nLp : L ≠ p := fun z => by
      have := (g2.trans g4).big _ _ hLl
      rw [z, a1] at this; cases this
    have pB : B p = none := (f3.grow g4).ent.big.free a1
    refine ⟨g25.big _ _ hLl, by rw [List.length_map, hpl]; omega, ds.length - (n + 1), by omega, hlt, rfl, Hd, ps ++ [p], ?_, ((f3.grow g4).grow g5 |>.forget k1.symm k2).touch hL5 hBL compD_noOwn, hL5, by simp, upd_same, by simp [hLp, nLp], ?_, by simp [hpl], fun p' hp' => ?_⟩
    · have gg := g1.trans g25
      exact ⟨fun b u e => by rw [upd_ne (ne_of_none e hL)]; exact gg.big b u e, gg.sml, fun b u e => by rw [upd_ne (ne_of_none e hL5)]; exact gg.sub b u e, gg.new⟩
    · rw [List.nodup_append]
      refine ⟨hnd, by simp, fun b hb c hc => ?_⟩
      simp only [List.mem_singleton] at hc
      subst hc
      intro z
      subst z
      have := (g2.trans g4).big _ _ (hps b hb).2.2
      rw [a1] at this; cases this
    · rcases List.mem_append.mp hp' with h | h
      · obtain ⟨h1, h2, h3⟩ := hps p' h
        have np : p' ≠ L := fun z => hLp (by rw [← z]; exact h)
        exact ⟨h1, g25.still h2 h3, by rw [upd_ne np]; exact g25.big _ _ h3⟩
      · simp only [List.mem_singleton] at h
        subst h
        exact ⟨pB, a2, by rw [upd_ne (Ne.symm nLp)]; exact a3⟩
  · have e : n = ds.length := by omega
    subst e
    refine .inl ⟨i2 (Nat.le_refl _), q _ L ps Ha H' ?_⟩
    have gg := g.trans g1
    refine ⟨(f.grow gg).setS (v := .ref L) (sl := .ref L) rfl rfl, hn L, hLl, hLa, hBL, hLp, hnd, by simp [hpl], fun j p es e1 e2 => ?_⟩
    obtain ⟨h1, h2, h3⟩ := hps p (List.mem_of_getElem? e1)
    rw [List.getElem?_replicate] at e2
    split at e2 <;> cases e2
    exact ⟨h2, h1, [], h3, .nil⟩
end
end L2

set_option Elab.async false
set_option linter.all false
set_option maxRecDepth 100000
set_option maxHeartbeats 4000000
namespace L2
open PySem PySem.Spec PyProof.Rows
section
variable {X : Cx} {B0 B H0 H : Hp} {σ : St} {D : Ends} {δ : List Slot} {a : Addr} {ps : List Addr} {gs : List (List PyData)} {pos px : Pos} {x : Str}
/-- return rows -/
theorem g_ret (G : GFr X.K B0 B a ps gs H0 H σ δ) (i : Nat) (hi : δ[i]? = some (.ref a)) (q : ∀ v H0' H', Grow B0 B H0' H' → Rep X.K H0' v (.list (gs.map .list)) → D.rt v H')
    (hN : X.N[i]? = some x := by rfl) (hv : Vis X.env.scope x := by first | exact Or.inl rfl | exact Or.inr (Or.inl rfl) | exact Or.inr (Or.inr rfl)) (hd : (x == ("__debug__" : Str)) = false := by decide) (hcd : (x == ("__classdict__" : Str)) = false := by decide) :
    cS X (.Return (some (.Name x px)) pos) D σ H := fun pins s I => ps_ret (pe_var hN hv hd hcd) pins s σ H D I (by
  obtain ⟨Ha, g, r⟩ := G.rep
  exact ⟨.ref a, G.fr.slot i _ hi, q _ Ha H g r⟩)
end
theorem cut_take {α : Type} (l : List α) (n : Nat) : cutD l none (some (n : Int)) = l.take n := by
  unfold cutD
  rw [HT.sIx_none, HT.sIx_nat, List.drop_zero, Nat.sub_zero]
  by_cases h : n ≤ l.length
  · rw [Nat.min_eq_left h]
  · rw [Nat.min_eq_right (by omega), List.take_of_length_le (Nat.le_refl _), List.take_of_length_le (by omega)]
theorem lay_nil : Lay 20 (.list []) := lay_lst (n := 19) fun d hd => by cases hd
/-- the names of Python's own that the text does not store -/
structure Nm (mg : Str → Option Value) : Prop where
  len : mg "len" = none
  enu : mg "enumerate" = none
  srt : mg "sorted" = none
  max : mg "max" = none
  min : mg "min" = none
  rng : mg "range" = none
  sum : mg "sum" = none
  isi : mg "isinstance" = none
  tup : mg "tuple" = none
  lst : mg "list" = none
  int : mg "int" = none
  bool : mg "bool" = none
  any : mg "any" = none
structure Kt (K : PySem.W.Frag) : Prop where
  tt : PySem.W.kitOne K (.type "tuple") (.type "tuple") = some true
  ll : PySem.W.kitOne K (.type "list") (.type "list") = some true
  ii : PySem.W.kitOne K (.type "int") (.type "int") = some true
  ib : PySem.W.kitOne K (.type "int") (.type "bool") = some false
end L2

set_option Elab.async false
set_option linter.all false
set_option maxRecDepth 100000
set_option maxHeartbeats 4000000
/-! ### min of a list of tuples of ints -/
namespace L2
open PySem PySem.Spec PyProof.Rows
/-- comparing, while the heap keeps what it must -/
def CmpK (P : Program) (w : World) (A : Around) (Kp : Heap → Prop) (V : Nat → Value → Prop) (bt : Nat → Nat → Bool) : Prop :=
  ∀ i j x y (s : Shared) (Q E : Value → Shared → Prop), Kp s.heap → V i x → V j y → Q (.bool (bt i j)) s → wpAny (model P w) A (richCompare .Lt x y) Q E s
section
variable {P : Program} {w : World} {A : Around} {R : Result → Shared → Prop} {it S : Addr} {fp wr : List Addr} {n : Nat} {V : Nat → Value → Prop} {St : Nat → Heap → Prop} {Kp : Heap → Prop} {bt : Nat → Nat → Bool}
theorem min_name : (toString "min" ++ toString ".loop" : String) = "min.loop" := by decide
theorem min_turns (W : Walks P w A.in1 it fp wr n V St) (hK : ∀ h h', Kp h → (∀ b o, b ∉ wr → b ≠ S → h.get? b = some o → h'.get? b = some o) → Kp h') (hc : CmpK P w A.in1 Kp V bt) (nS : S ∉ fp) :
    ∀ (m j : Nat) (s : Shared) (best : Value) (c : Nat), n - (j + 1) = m → j + 1 ≤ n → Kp s.heap → St (j + 1) s.heap → V (argBest bt j) best → s.heap.get? S = some { cls := .type "list", dict := none, data := .seq #[best, best] c, slots := #[] } →
    (∀ v h' tk, V (argBest bt (n - 1)) v → (∀ b o, b ∉ wr → b ≠ S → s.heap.get? b = some o → h'.get? b = some o) → R (.ok (.ret v)) { s with heap := h', toks := tk }) →
    codeAny (model P w) A (.builtin "min.loop" ⟨[.ref it, .none, .ref S], []⟩) R s := by
  have nSw : S ∉ wr := fun z => nS (W.sub _ z)
  intro m
  induction m with
  | zero =>
    intro j s best c e1 e2 kp st vb eS fin
    have ej : j + 1 = n := by omega
    refine codeAny_builtin PySem.F.entry_min_loop ?_
    rw [Around.under_plainId PySem.F.plain_min_loop _]
    show wpAny _ A.in1 (seqItems? (.ref S) >>= fun _ => _) _ _ s
    refine wpAny_bind (wpAny_seqItems eS rfl ?_)
    show wpAny _ A.in1 (tryCatch (pyNext (.ref it)) _ >>= _) _ _ s
    refine wpAny_bind (wpAny_tryCatch (W.done s _ _ (ej ▸ st) fun h1 tk keep => ?_))
    have eS1 := keep S _ nSw eS
    show wpAny _ A.in1 (updateSeq S (fun _ => #[]) >>= fun _ => _) _ _ _
    refine wpAny_bind ?_
    refine wpAny_updateSeq eS1 rfl (wpAny_bind (wpAny_letGo (wpAny_pure ?_)))
    exact fin best _ tk (by rw [← ej]; exact vb) fun b o q1 q2 e => (Heap.get?_update_other _ _ (Ne.symm q2)).trans (keep b o q1 e)
  | succ m ih =>
    intro j s best c e1 e2 kp st vb eS fin
    have ej : j + 1 < n := by omega
    refine codeAny_builtin PySem.F.entry_min_loop ?_
    rw [Around.under_plainId PySem.F.plain_min_loop _]
    show wpAny _ A.in1 (seqItems? (.ref S) >>= fun _ => _) _ _ s
    refine wpAny_bind (wpAny_seqItems eS rfl ?_)
    show wpAny _ A.in1 (tryCatch (pyNext (.ref it)) _ >>= _) _ _ s
    refine wpAny_bind (wpAny_tryCatch (W.item (j + 1) s _ _ ej st fun v h1 tk vv st1 keep => ?_))
    have eS1 := keep S _ nSw eS
    have kp1 : Kp h1 := hK _ _ kp fun b o q1 _ e => keep b o q1 e
    show wpAny _ A.in1 (tryCatch (holding [v, v] (richCompare .Lt v best >>= fun _ => _)) _ >>= _) _ _ _
    refine wpAny_bind (wpAny_tryCatch (wpAny_holding (wpAny_bind (hc (j + 1) (argBest bt j) v best _ _ _ kp1 vv vb ?_))))
    refine wpAny_bind (wpAny_holding (wpAny_truthy_bool (?_ : _)))
    refine wpAny_bind (wpAny_letGo (wpAny_pure (?_ : _)))
    cases hb : bt (j + 1) (argBest bt j) with
    | true =>
      simp only [if_true]
      refine wpAny_bind ?_
      refine wpAny_updateSeq eS1 rfl (wpAny_bind (wpAny_letGo ?_))
      rw [min_name]
      refine wpAny_pure ⟨plainId_quiet PySem.F.plain_min_loop _, ih (j + 1) _ v _ (by omega) ej (hK _ _ kp1 fun b o _ q2 e => (Heap.get?_update_other _ _ (Ne.symm q2)).trans e) (W.frame _ _ _ st1 fun b q1 o e => ?_) (by simp only [argBest, hb, if_true]; exact vv) (Heap.get?_update_self _ eS1 rfl) fun v' h2 tk2 vv2 keep2 => ?_⟩
      · exact (Heap.get?_update_other _ _ (fun z : S = b => nS (by rw [z]; exact q1))).trans e
      · exact fin v' h2 tk2 vv2 fun b o q1 q2 e => keep2 b o q1 q2 ((Heap.get?_update_other _ _ (Ne.symm q2)).trans (keep b o q1 e))
    | false =>
      simp only [Bool.false_eq_true, if_false]
      refine wpAny_bind (wpAny_letGo ?_)
      rw [min_name]
      refine wpAny_pure ⟨plainId_quiet PySem.F.plain_min_loop _, ih (j + 1) _ best c (by omega) ej kp1 st1 (by simp only [argBest, hb, Bool.false_eq_true, if_false]; exact vb) eS1 fun v' h2 tk2 vv2 keep2 => ?_⟩
      exact fin v' h2 tk2 vv2 fun b o q1 q2 e => keep2 b o q1 q2 (keep b o q1 e)
theorem min_first (W : Walks P w A.in1 it fp wr n V St) (hK : ∀ h h', Kp h → (∀ b o, b ∉ wr → b ≠ S → h.get? b = some o → h'.get? b = some o) → Kp h') (hc : CmpK P w A.in1 Kp V bt) (nS : S ∉ fp) (hn : 0 < n) {s : Shared} {c : Nat} (kp : Kp s.heap) (st : St 0 s.heap)
    (eS : s.heap.get? S = some { cls := .type "list", dict := none, data := .seq #[] c, slots := #[] })
    (fin : ∀ v h' tk, V (argBest bt (n - 1)) v → (∀ b o, b ∉ wr → b ≠ S → s.heap.get? b = some o → h'.get? b = some o) → R (.ok (.ret v)) { s with heap := h', toks := tk }) :
    codeAny (model P w) A (.builtin "min.loop" ⟨[.ref it, .none, .ref S], []⟩) R s := by
  have nSw : S ∉ wr := fun z => nS (W.sub _ z)
  refine codeAny_builtin PySem.F.entry_min_loop ?_
  rw [Around.under_plainId PySem.F.plain_min_loop _]
  show wpAny _ A.in1 (seqItems? (.ref S) >>= fun _ => _) _ _ s
  refine wpAny_bind (wpAny_seqItems eS rfl ?_)
  show wpAny _ A.in1 (tryCatch (pyNext (.ref it)) _ >>= _) _ _ s
  refine wpAny_bind (wpAny_tryCatch (W.item 0 s _ _ hn st fun v h1 tk vv st1 keep => ?_))
  have eS1 := keep S _ nSw eS
  show wpAny _ A.in1 (updateSeq S (fun _ => #[v, v]) >>= fun _ => _) _ _ _
  refine wpAny_bind ?_
  refine wpAny_updateSeq eS1 rfl ?_
  rw [min_name]
  refine wpAny_pure ⟨plainId_quiet PySem.F.plain_min_loop _, min_turns W hK hc nS _ 0 _ v _ rfl hn (hK _ _ kp fun b o q1 q2 e => (Heap.get?_update_other _ _ (Ne.symm q2)).trans (keep b o q1 e)) (W.frame _ _ _ st1 fun b q1 o e => ?_) vv (Heap.get?_update_self _ eS1 rfl) fun v' h2 tk2 vv2 keep2 => ?_⟩
  · exact (Heap.get?_update_other _ _ (fun z : S = b => nS (by rw [z]; exact q1))).trans e
  · exact fin v' h2 tk2 vv2 fun b o q1 q2 e => keep2 b o q1 q2 ((Heap.get?_update_other _ _ (Ne.symm q2)).trans (keep b o q1 e))
end
section
variable {P : Program} {w : World} {A : Around} {E : Value → Shared → Prop} {s : Shared}
theorem lex_best (ns : Nat → List Int) : ∀ k, argBest (fun i j => HT.lexLt (ns i) (ns j)) k ≤ k ∧ ∀ j, j ≤ k → HT.lexLt (ns j) (ns (argBest (fun i j => HT.lexLt (ns i) (ns j)) k)) = false
  | 0 => ⟨Nat.le_refl _, fun j hj => by
      have : j = 0 := by omega
      subst this
      exact lex_irr _⟩
  | k + 1 => by
    obtain ⟨h1, h2⟩ := lex_best ns k
    show (if HT.lexLt (ns (k + 1)) (ns (argBest _ k)) = true then k + 1 else argBest _ k) ≤ k + 1 ∧ ∀ j, j ≤ k + 1 → HT.lexLt (ns j) (ns (if HT.lexLt (ns (k + 1)) (ns (argBest _ k)) = true then k + 1 else argBest _ k)) = false
    by_cases h : HT.lexLt (ns (k + 1)) (ns (argBest (fun i j => HT.lexLt (ns i) (ns j)) k)) = true
    · rw [if_pos h]
      refine ⟨Nat.le_refl _, fun j hj => ?_⟩
      by_cases e : j = k + 1
      · subst e; exact lex_irr _
      · exact lex_tra _ _ _ (lex_asy _ _ h) (h2 j (by omega))
    · rw [if_neg h]
      refine ⟨by omega, fun j hj => ?_⟩
      by_cases e : j = k + 1
      · subst e; simpa using h
      · exact h2 j (by omega)
theorem minT {l : Addr} {vs : List Value} {nss : List (List Int)} {Q : Value → Shared → Prop} (hh : A.handled = none) (hu : A.units + 1 < cLine) (hl : s.heap.IsList l vs.toArray) (t : TupsAt s.heap vs nss) (hne : nss ≠ [])
    (h : ∀ v h' tk (i : Nat), vs[i]? = some v → i < nss.length → (∀ j, j < nss.length → HT.lexLt (nss.getD j []) (nss.getD i []) = false) → (∀ b o, s.heap.get? b = some o → h'.get? b = some o) → Q v { s with heap := h', toks := tk }) :
    wpAny (model P w) A (call (.builtin "min") [.ref l]) Q E s := by
  have hlen := Paired.length t
  have hpos : 0 < nss.length := by
    cases nss with
    | nil => exact absurd rfl hne
    | cons a m => simp
  have hlt : l < s.heap.objs.size := by obtain ⟨_, e, _⟩ := hl; exact Heap.lt_size e
  refine call_function_tree PySem.F.kind_min PySem.F.plain_min PySem.F.entry_min (PySem.F.args_min1 _) ?_
  show wpAny _ A.in1 (Builtin.Builtins.bindParams "min" ["key", "default"] 0 ⟨[], []⟩ >>= fun _ => _) _ _ s
  refine wpAny_bind (wpAny_of_eq (show Builtin.Builtins.bindParams "min" ["key", "default"] 0 ⟨[], []⟩ = pure [none, none] from by rfl) ?_)
  refine wpAny_bind (wpAny_pure (?_ : _))
  refine wpAny_bind (wpAny_pyIter_list hl ?_)
  refine wpAny_bind (wpAny_newObj_type ?_)
  have hsz : (s.heap.push { cls := .type "list_iterator", data := .fields #[.ref l, .int 0 0] }).objs.size = s.heap.objs.size + 1 := Heap.size_push _ _
  have W := Walks.list (prog := P) (w := w) (A := A.in1) hh s.heap.objs.size l (Nat.ne_of_lt hlt) vs.toArray
  rw [min_name]
  refine wpAny_pure ⟨plainId_quiet PySem.F.plain_min_loop _, min_first (Kp := fun h1 => ∀ b o, s.heap.get? b = some o → h1.get? b = some o) (bt := fun i j => HT.lexLt (nss.getD i []) (nss.getD j [])) W (fun h1 h2 k1 k2 b o e => k2 b o ?_ ?_ (k1 b o e)) (fun i j x y s' Q' E' kp hx hy q => ?_) ?_ (by simpa using (show 0 < vs.length by omega)) (fun b o e => Heap.get?_push_of_some _ (Heap.get?_push_of_some _ e)) ⟨⟨_, Heap.get?_push_of_some _ (Heap.get?_push_size _ rfl), rfl, rfl⟩, (hl.push _).push _⟩ (Heap.get?_push_size _ rfl) fun v h1 tk hv keep => ?_⟩
  · intro z
    have := Heap.lt_size e
    simp only [List.mem_singleton] at z
    rw [z] at this
    exact Nat.lt_irrefl _ this
  · have := Heap.lt_size e
    show b ≠ (s.heap.push _).objs.size
    rw [hsz]
    intro z
    rw [z] at this
    exact absurd this (Nat.not_lt.mpr (Nat.le_succ _))
  · have t' := t.keep kp
    have hi : i < nss.length := by
      have := (Array.getElem?_eq_some_iff.mp hx).1
      simp at this; omega
    have hj : j < nss.length := by
      have := (Array.getElem?_eq_some_iff.mp hy).1
      simp at this; omega
    obtain ⟨a, its, rfl, ta, ia, _⟩ := Paired.at t' (i := i) (a := x) (b := nss.getD i []) (by simpa using hx) (by simp [hi])
    obtain ⟨b, jts, rfl, tb, ib, _⟩ := Paired.at t' (i := j) (a := y) (b := nss.getD j []) (by simpa using hy) (by simp [hj])
    exact HT.lt_tupInts ta tb ia ib (by show A.units + 1 < cLine; exact hu) q
  · show (s.heap.push _).objs.size ∉ [s.heap.objs.size, l]
    rw [hsz]
    intro z
    rcases List.mem_cons.mp z with z | z
    · exact absurd z (Nat.succ_ne_self _)
    · rw [List.mem_singleton] at z
      rw [← z] at hlt
      exact absurd hlt (Nat.not_lt.mpr (Nat.le_succ _))
  · obtain ⟨b1, b2⟩ := lex_best (fun i => nss.getD i []) (vs.toArray.size - 1)
    have hsize : vs.toArray.size = vs.length := by simp
    refine h v h1 tk _ (by simpa using hv) (by omega) (fun j hj => b2 j (by omega)) fun b o e => keep b o ?_ ?_ (Heap.get?_push_of_some _ (Heap.get?_push_of_some _ e))
    · intro z
      have := Heap.lt_size e
      simp only [List.mem_singleton] at z
      rw [z] at this
      exact Nat.lt_irrefl _ this
    · have := Heap.lt_size e
      show b ≠ (s.heap.push _).objs.size
      rw [hsz]
      intro z
      rw [z] at this
      exact absurd this (Nat.not_lt.mpr (Nat.le_succ _))
end
end L2

set_option Elab.async false
set_option linter.all false
set_option maxRecDepth 100000
set_option maxHeartbeats 4000000
namespace L2
open PySem PySem.Spec PyProof.Rows
section
variable {X : Cx}
def rMinT (K : PySem.W.Frag) : List V → Hp → VK → Prop := fun xs H Q => ∃ (a : Addr) (ys : List V) (nss : List (List Int)), xs = [.ref a] ∧ SqL K H a ys ∧ Reps K H ys (nss.map tupD) ∧ (∀ ns ∈ nss, ns ≠ []) ∧ nss ≠ [] ∧
  ∀ i, i < nss.length → (∀ j, j < nss.length → HT.lexLt (nss.getD j []) (nss.getD i []) = false) → Q (ys.getD i .non) H
theorem tups_at {pins : List (Addr × Obj)} {σ : St} {H : Hp} {s : Shared} (I : Inv X pins σ H s) : ∀ {ys : List V} {its : List Value} {nss : List (List Int)}, Vals ys its → Reps X.K H ys (nss.map tupD) → (∀ ns ∈ nss, ns ≠ []) → TupsAt s.heap its nss := by
  intro ys its nss v
  induction v generalizing nss with
  | nil =>
    intro r _
    cases nss with
    | nil => exact .nil
    | cons n nss => cases r
  | cons rv v ih =>
    intro r hn
    cases nss with
    | nil => cases r
    | cons n nss =>
      cases r with
      | cons r1 r2 =>
        cases r1 with
        | tup hT rT =>
          cases rv
          rw [rT.ints] at hT
          obtain ⟨jts, r3, pt, _⟩ := I.tuple hT
          exact .cons ⟨_, jts, rfl, pt, intsAre_of r3, hn _ List.mem_cons_self⟩ (ih r2 fun m hm => hn m (List.mem_cons_of_mem _ hm))
theorem call_minT (hc : X.calm = true) (hu : X.A.units + 1 < cLine) : CallR X (.builtin "min") (rMinT X.K) := by
  intro pins s σ H xs us Q I r h
  obtain ⟨a, ys, nss, rfl, hq, hr, hne, hn0, q⟩ := h
  obtain ⟨u, rfl, rx⟩ := vals1 r
  cases rx
  obtain ⟨its, rv, pl, hz⟩ := I.list hq
  have hl := hr.length
  have hlv := rv.length
  simp only [List.length_map] at hl
  refine minT (I.ok.hd hc) hu pl.isList (tups_at I rv hr hne) hn0 fun v h' tk i hv hi hb hk => ?_
  have e := rv.getD i
  have e2 : its.getD i Value.none = v := by rw [List.getD_eq_getElem?_getD, hv]; rfl
  rw [e2] at e
  exact ⟨_, H, I.kept hk, e, q i hi hb⟩
theorem cdMinT {K : PySem.W.Frag} {nss : List (List Int)} {z : List Int} (hz : z ∈ nss) (hm : ∀ y ∈ nss, HT.lexLt y z = false) (hne : ∀ ns ∈ nss, ns ≠ []) : CallD K (rMinT K) [.list (nss.map tupD)] (tupD z) := fun vs H0 H Q s r q => by
  obtain ⟨v, rfl, r1⟩ := r.one
  cases r1 with
  | lst hq rs =>
    refine ⟨_, _, nss, rfl, s.seq hq, rs.mono s, hne, (fun e => by rw [e] at hz; cases hz), fun i hi hb => ?_⟩
    have rg := rs.getD (i := i) (by simpa using hi)
    have e : nss.getD i [] = z := by
      obtain ⟨j, hj⟩ := List.mem_iff_getElem?.mp hz
      have hjl := (List.getElem?_eq_some_iff.mp hj).1
      have h1 := hb j hjl
      rw [List.getD_eq_getElem?_getD, hj] at h1
      refine lex_eq _ _ (hm _ ?_) h1
      rw [List.getD_eq_getElem?_getD, List.getElem?_eq_getElem hi]
      exact List.getElem_mem hi
    have e2 : (nss.map tupD).getD i .none = tupD z := by
      rw [← e]
      simp [hi]
    rw [e2] at rg
    exact q _ _ _ (.refl s) rg
end
end L2

set_option Elab.async false
set_option linter.all false
set_option maxRecDepth 100000
set_option maxHeartbeats 4000000
/-! ### any(list of lists) -/
namespace L2
open PySem PySem.Spec PyProof.Rows
section
variable {prog : Program} {w : World} {A : Around} {R : Result → Shared → Prop} {I : Addr} {fp wr : List Addr} {G : Array GenState → Array GenState → Prop} {n : Nat} {P : Nat → Value → Prop} {St : Nat → Shared → Prop}
theorem any_loopT (W : WalksS prog w A.in1 I fp wr G n P St) (tr : Nat → Bool) (T : Heap → Prop) (keep : ∀ h h', T h → (∀ b o, b ∉ wr → h.get? b = some o → h'.get? b = some o) → T h')
    (hT : ∀ i v (s : Shared) (Q : Bool → Shared → Prop) (E : Value → Shared → Prop), i < n → P i v → T s.heap → (∀ tk, s.toks ≤ tk → Q (tr i) { s with toks := tk }) → wpAny (model prog w) A.in1 (truthy v) Q E s) :
    ∀ (m j : Nat) (t : Shared), n - j = m → j ≤ n → St j t → T t.heap → (∀ t', Moved wr G t t' → R (.ok (.ret (.bool (((List.range n).drop j).any tr)))) t') →
      codeAny (model prog w) A (.builtin "any.loop" ⟨[.ref I], []⟩) R t := by
  intro m
  induction m with
  | zero =>
    intro j t hk hi hst hS hR
    have hin : j = n := by omega
    subst hin
    refine codeAny_builtin F.entry_any_loop ?_
    rw [Around.under_plainId F.plain_any_loop _]
    show wpAny _ A.in1 (pyNext (.ref I) >>= _) _ _ t
    refine wpAny_bind (W.done t _ _ hst fun t' hm => ?_)
    refine wpAny_bind (wpAny_rule (wpAny_pure ?_))
    have z := hR t' hm
    rw [List.drop_of_length_le (by simp)] at z
    exact z
  | succ m ih =>
    intro j t hk hi hst hS hR
    have hlt : j < n := by omega
    have hd : (List.range n).drop j = j :: (List.range n).drop (j + 1) := by
      rw [List.drop_eq_getElem_cons (by simpa using hlt)]; simp
    refine codeAny_builtin F.entry_any_loop ?_
    rw [Around.under_plainId F.plain_any_loop _]
    show wpAny _ A.in1 (pyNext (.ref I) >>= _) _ _ t
    refine wpAny_bind (W.item j t _ _ hlt hst fun v t' hP hst' hm => ?_)
    have hS' : T t'.heap := keep _ _ hS fun b o hb e => hm.heap b o hb e
    refine wpAny_bind (wpAny_holding (hT j v t' _ _ hlt hP hS' fun tk htk => ?_))
    have hm2 : Moved wr G t { t' with toks := tk } := hm.then_heap (h' := t'.heap) htk fun b o _ e => e
    refine wpAny_bind (wpAny_letGo ?_)
    cases hb : tr j with
    | false =>
      simp only [Bool.false_eq_true, if_false]
      refine wpAny_pure ⟨plainId_quiet F.plain_any_loop _, ih (j + 1) _ (by omega) hlt (W.frame _ t' t'.heap tk hst' htk fun b _ o e => e) hS' fun t'' hm' => ?_⟩
      have z := hR t'' (hm2.trans W.gtrans hm')
      rw [hd, List.any_cons, hb, Bool.false_or] at z
      exact z
    | true =>
      simp only [if_true]
      refine wpAny_bind (wpAny_rule (wpAny_pure ?_))
      have z := hR _ hm2
      rw [hd, List.any_cons, hb, Bool.true_or] at z
      exact z
end
section
variable {X : Cx}
def anyL (L : List (List PyData)) : Bool := L.any fun l => !l.isEmpty
theorem Reps.rows {K : PySem.W.Frag} {H : Hp} : ∀ (L : List (List PyData)) {xs : List V}, Reps K H xs (L.map .list) → xs.length = L.length ∧ ∀ i, i < L.length → ∃ a ys, xs.getD i .non = .ref a ∧ SqL K H a ys ∧ ys.length = (L.getD i []).length
  | [], _, r => by cases r; exact ⟨rfl, fun i h => absurd h (Nat.not_lt_zero _)⟩
  | l :: L, _, r => by
    cases r with
    | cons a t =>
      obtain ⟨h1, h2⟩ := Reps.rows L t
      refine ⟨by rw [List.length_cons, h1, List.length_cons], fun i hi => ?_⟩
      cases i with
      | zero =>
        cases a with
        | lst hq rs => exact ⟨_, _, rfl, hq, rs.length⟩
      | succ i => exact h2 i (Nat.lt_of_succ_lt_succ hi)
def rAnyL (K : PySem.W.Frag) : List V → Hp → VK → Prop := fun xs H Q => ∃ p ys L, xs = [.ref p] ∧ SqL K H p ys ∧ Reps K H ys (L.map PyData.list) ∧ Q (.bl (anyL L)) H
theorem call_anyL (hc : X.calm = true) : CallR X (.builtin "any") (rAnyL X.K) := by
  intro pins s σ H xs us Q I r h
  obtain ⟨p, ys, L, rfl, hq, hr, q⟩ := h
  obtain ⟨u, rfl, rx⟩ := vals1 r
  cases rx
  obtain ⟨its, rv, pl, hz⟩ := I.list hq
  have hl := rv.length
  obtain ⟨hyl, hrow⟩ := hr.rows
  refine call_function_tree F.kind_any F.plain_any F.entry_any (F.args_any1 _) ?_
  unfold Builtin.«any»
  refine wpAny_bind (m := oneArg "any" _) (wpAny_pure ?_)
  refine wpAny_bind (wpAny_pyIter_list pl.isList ?_)
  have hne : p ≠ s.heap.objs.size := Nat.ne_of_lt (Heap.lt_size pl.isList.choose_spec.1)
  have hsz : its.toArray.size = L.length := by simp only [List.size_toArray]; omega
  let T : Heap → Prop := fun h => ∀ i, i < L.length → ∃ a items, its.getD i .none = .ref a ∧ a ≠ s.heap.objs.size ∧ h.IsList a items ∧ (items.size : Int) < 2 ^ 63 ∧ (!items.isEmpty) = !(L.getD i []).isEmpty
  refine wpAny_pure ⟨plainId_quiet F.plain_any_loop _, any_loopT ((Walks.list (by simp [I.ok.hd hc]) _ p hne its.toArray).toS) (fun i => !(L.getD i []).isEmpty) T (fun h h' t k i hi => ?_) (fun i v s' Q' E' hi hv t q' => ?_) its.toArray.size 0 _ rfl (Nat.zero_le _) ⟨⟨_, Heap.get?_push_size _ rfl, rfl, rfl⟩, pl.isList.push _⟩ ?_ fun s' hm => ?_⟩
  · obtain ⟨a, items, e1, e2, e3, e4, e5⟩ := t i hi
    obtain ⟨o, ho, rest⟩ := e3
    exact ⟨a, items, e1, e2, ⟨o, k a o (by simpa using e2) ho, rest⟩, e4, e5⟩
  · obtain ⟨a, items, e1, e2, e3, e4, e5⟩ := t i (by omega)
    have hv' : its[i]? = some v := by simpa using hv
    rw [List.getD_eq_getElem?_getD, hv'] at e1
    cases e1
    refine wpAny_truthy_list e3 e4 ?_
    rw [e5]
    exact q' _ (Nat.le_add_right _ 2)
  · intro i hi
    obtain ⟨a, zs, e1, e2, e3⟩ := hrow i hi
    have ei := rv.getD i
    rw [e1] at ei
    obtain ⟨its2, rv2, pl2, hz2⟩ := I.list e2
    have hl2 := rv2.length
    refine ⟨a, its2.toArray, ei, Nat.ne_of_lt (Heap.lt_size pl2.isList.choose_spec.1), pl2.isList.push _, ?_, ?_⟩
    · rw [List.size_toArray, ← hl2]
      exact Int.lt_of_le_of_lt (Int.ofNat_le.mpr hz2) (by decide)
    · rw [Bool.eq_iff_iff]
      cases its2 with
      | nil =>
        have : (L.getD i []).length = 0 := by rw [← e3, hl2]; rfl
        rw [List.length_eq_zero_iff.mp this]; simp
      | cons x xs =>
        cases hL : L.getD i [] with
        | nil => rw [hL] at e3; rw [e3] at hl2; simp at hl2
        | cons y ys => simp
  · have ea : ((List.range its.toArray.size).drop 0).any (fun i => !(L.getD i []).isEmpty) = anyL L := by
      rw [hsz, List.drop_zero]
      unfold anyL
      rw [Bool.eq_iff_iff, List.any_eq_true, List.any_eq_true]
      constructor
      · rintro ⟨i, hi, h⟩
        have hi := List.mem_range.mp hi
        rw [List.getD_eq_getElem?_getD, List.getElem?_eq_getElem hi] at h
        exact ⟨_, List.getElem_mem hi, h⟩
      · rintro ⟨x, hx, h⟩
        obtain ⟨i, hi⟩ := List.mem_iff_getElem?.mp hx
        refine ⟨i, List.mem_range.mpr (List.getElem?_eq_some_iff.mp hi).1, ?_⟩
        rw [List.getD_eq_getElem?_getD, hi]
        exact h
    rw [ea]
    obtain ⟨h', g', d', tk', os'⟩ := s'
    have eg : g' = s.gens := hm.gens
    have ed : d' = s.drawn := hm.drawn
    have eo : os' = s.os := hm.os
    subst eg; subst ed; subst eo
    refine ⟨.bl _, H, I.kept (t' := tk') fun b o e => hm.heap b o ?_ (Heap.get?_push_of_some _ e), rfl, q⟩
    have := Heap.lt_size e
    simp only [List.mem_singleton]
    exact Nat.ne_of_lt this
theorem cdAnyL {K : PySem.W.Frag} {L : List (List PyData)} : CallD K (rAnyL K) [.list (L.map .list)] (.bool (anyL L)) := fun vs H0 H Q s r q => by
  obtain ⟨v, rfl, r1⟩ := r.one
  cases r1 with
  | lst hq rs => exact ⟨_, _, L, rfl, s.seq hq, Reps.mono s _ rs, q _ _ _ (.refl s) (.bl _)⟩
end
end L2

set_option Elab.async false
set_option linter.all false
set_option maxRecDepth 100000
set_option maxHeartbeats 4000000
/-! ### len(set(..)), all(..), list(range(..)), chains, and/or as values -/
namespace L2
open PySem PySem.Spec PyProof.Rows
section
variable {X : Cx}
end
section
variable {X : Cx} {a b c e : Expr} {δ : List Slot} {d d1 d2 d3 : PyData} {ds : List PyData} {pos p p2 pos2 : Pos} {k : Nat}

/-! and, or as values -/
theorem pe_never : PE X e (fun _ _ _ => False) := fun _ _ _ _ _ _ h => h.elim
theorem ve_one {op} (h : VE X a δ d) : VE X (.BoolOp op [a] pos) δ d := .of (pe_one pe_c) fun B0 B σ H0 H Q f q => h B0 B σ H0 H Q f q
theorem ve_or {k1 k2 : Bool} {rest : List Expr} (h1 : VE X a δ (.bool k1)) (h2 : k1 = false → VE X (.BoolOp .Or (b :: rest) pos) δ (.bool k2)) : VE X (.BoolOp .Or (a :: b :: rest) pos) δ (.bool (k1 || k2)) := by
  cases k1 with
  | false =>
    refine .of (pe_or pe_c pe_c) fun B0 B σ H0 H Q f q => h1 B0 B σ H0 H _ f fun v H1 H1' g r => ?_
    cases r
    refine ⟨false, rfl, ?_⟩
    rw [if_neg Bool.false_ne_true]
    exact h2 rfl B0 B σ H1 H1' _ (f.grow g) fun u H2 H2' g2 r2 => q u H2 H2' (g.trans g2) r2
  | true =>
    refine .of (pe_or pe_c pe_never) fun B0 B σ H0 H Q f q => h1 B0 B σ H0 H _ f fun v H1 H1' g r => ?_
    cases r
    refine ⟨true, rfl, ?_⟩
    rw [if_pos rfl]
    exact q _ H1 H1' g (.bl true)
/-! chains of comparisons -/
/-! tuples of ints, the lesser -/
/-! [x] * n -/
/-! all([..]) -/
/-! list(range(n)) -/
/-! in, not in, is None as values -/
end
end L2

set_option linter.all false
/-! ### the rules, in plain data -/
namespace Mg
open L2
variable {S : Type} [DecidableEq S]
/-- a good: number, since, kind, parcel -/
abbrev Gd (S : Type) := Int × Int × S × S
abbrev Tri := Int × Nat × Nat
def rowT (place : Nat) (row : List (Gd S)) : List Tri := row.zipIdx.map fun q => (q.1.2.1, place, q.2)
def agedTo (R : List (List (Gd S))) (i : Nat) : List Tri := (R.zipIdx.take i).flatMap fun p => rowT p.2 p.1
def aged (R : List (List (Gd S))) : List Tri := R.zipIdx.flatMap fun p => rowT p.2 p.1
def enc (t : Tri) : List Int := [t.1, t.2.1, t.2.2]
def leT (a b : Tri) : Bool := !HT.lexLt (enc b) (enc a)
def elders (R : List (List (Gd S))) : List Tri := (aged R).mergeSort leT
theorem agedTo_succ {R : List (List (Gd S))} {i : Nat} {row : List (Gd S)} (h : R[i]? = some row) : agedTo R (i + 1) = agedTo R i ++ rowT i row := by
  unfold agedTo
  rw [List.take_add_one, List.getElem?_zipIdx, h]
  simp
theorem agedTo_all (R : List (List (Gd S))) : agedTo R R.length = aged R := by
  unfold agedTo aged
  rw [List.take_of_length_le (by simp)]
theorem leT_total (a b : Tri) : (leT a b || leT b a) = true := by
  unfold leT
  cases h : HT.lexLt (enc b) (enc a) with
  | false => rfl
  | true => rw [lex_asy _ _ h]; rfl
theorem leT_trans (a b c : Tri) (h1 : leT a b = true) (h2 : leT b c = true) : leT a c = true := by
  unfold leT at *
  simp only [Bool.not_eq_true'] at *
  exact lex_tra _ _ _ h1 h2
theorem elders_perm (R : List (List (Gd S))) : (elders R).Perm (aged R) := List.mergeSort_perm _ _
theorem elders_up (R : List (List (Gd S))) : ((elders R).map enc).Pairwise fun a b => HT.lexLt b a = false := by
  rw [List.pairwise_map]
  refine (List.pairwise_mergeSort leT_trans leT_total (aged R)).imp fun {a b} h => ?_
  unfold leT at h
  simpa using h
theorem mem_rowT {place : Nat} {row : List (Gd S)} {t : Tri} : t ∈ rowT place row ↔ t.2.1 = place ∧ ∃ g, row[t.2.2]? = some g ∧ g.2.1 = t.1 := by
  unfold rowT
  rw [List.mem_map]
  constructor
  · rintro ⟨⟨g, n⟩, h, rfl⟩
    rw [List.mem_zipIdx_iff_getElem?] at h
    exact ⟨rfl, g, h, rfl⟩
  · rintro ⟨h1, g, h2, h3⟩
    refine ⟨(g, t.2.2), ?_, ?_⟩
    · rw [List.mem_zipIdx_iff_getElem?]; exact h2
    · obtain ⟨a, b, c⟩ := t
      simp at h1 h3 ⊢
      exact ⟨h3, h1.symm⟩
theorem mem_aged {R : List (List (Gd S))} {t : Tri} : t ∈ aged R ↔ ∃ row g, R[t.2.1]? = some row ∧ row[t.2.2]? = some g ∧ g.2.1 = t.1 := by
  unfold aged
  rw [List.mem_flatMap]
  constructor
  · rintro ⟨⟨row, n⟩, h, ht⟩
    rw [List.mem_zipIdx_iff_getElem?] at h
    obtain ⟨h1, g, h2, h3⟩ := mem_rowT.mp ht
    simp only at h1 h
    exact ⟨row, g, by rw [h1]; exact h, h2, h3⟩
  · rintro ⟨row, g, h1, h2, h3⟩
    refine ⟨(row, t.2.1), ?_, mem_rowT.mpr ⟨rfl, g, h2, h3⟩⟩
    rw [List.mem_zipIdx_iff_getElem?]; exact h1
theorem mem_elders {R : List (List (Gd S))} {t : Tri} : t ∈ elders R ↔ ∃ row g, R[t.2.1]? = some row ∧ row[t.2.2]? = some g ∧ g.2.1 = t.1 := by
  rw [(elders_perm R).mem_iff]; exact mem_aged
/-- how many wait -/
def total (R : List (List (Gd S))) : Nat := (R.map List.length).sum
theorem aged_length (R : List (List (Gd S))) : (aged R).length = total R := by
  have go : ∀ (R : List (List (Gd S))) (k : Nat), ((R.zipIdx k).flatMap fun p => rowT p.2 p.1).length = total R := by
    intro R
    induction R with
    | nil => intro k; rfl
    | cons r R ih =>
      intro k
      rw [List.zipIdx_cons, List.flatMap_cons, List.length_append, ih]
      unfold total
      simp [rowT]
  exact go R 0
theorem elders_length (R : List (List (Gd S))) : (elders R).length = total R := by rw [(elders_perm R).length_eq, aged_length]
def spotT (t : Tri) : Nat × Nat := (t.2.1, t.2.2)
/-- the good at a spot -/
def goodAt (R : List (List (Gd S))) (p : Nat × Nat) : Option (Gd S) := R[p.1]?.bind fun row => row[p.2]?
theorem goodAt_some {R : List (List (Gd S))} {t : Tri} (h : t ∈ elders R) : ∃ row g, R[t.2.1]? = some row ∧ row[t.2.2]? = some g ∧ g.2.1 = t.1 ∧ goodAt R (spotT t) = some g := by
  obtain ⟨row, g, h1, h2, h3⟩ := mem_elders.mp h
  exact ⟨row, g, h1, h2, h3, by unfold goodAt spotT; simp [h1, h2]⟩

/-! turns -/
/-- the place and the count behind k steps -/
def turnAt (n p : Nat) (c : Int) : Nat → Nat × Int
  | 0 => (p, c)
  | k + 1 => (((turnAt n p c k).1 + 1) % n, 0)
def stands (R : List (List (Gd S))) (shares : List Int) (q : Nat × Int) : Bool := !(R.getD q.1 []).isEmpty && decide (q.2 < shares.getD q.1 0)
theorem turnAt_place {n p : Nat} {c : Int} (hp : p < n) : ∀ k, (turnAt n p c k).1 = (p + k) % n
  | 0 => by simp [turnAt, Nat.mod_eq_of_lt hp]
  | k + 1 => by
    show ((turnAt n p c k).1 + 1) % n = _
    rw [turnAt_place hp k]
    rw [Nat.mod_add_mod, Nat.add_assoc]
theorem turnAt_lt {n p : Nat} {c : Int} (hp : p < n) (k : Nat) : (turnAt n p c k).1 < n := by rw [turnAt_place hp]; exact Nat.mod_lt _ (by omega)
theorem turnAt_count {n p : Nat} {c : Int} (k : Nat) : (turnAt n p c (k + 1)).2 = 0 := rfl
theorem turn_found {R : List (List (Gd S))} {shares : List Int} {p : Nat} {c : Int} (hp : p < R.length) (hs : ∀ i, i < R.length → 1 ≤ shares.getD i 0) (hne : elders R ≠ []) :
    ∃ m, m ≤ R.length ∧ stands R shares (turnAt R.length p c m) = true ∧ ∀ k, k < m → stands R shares (turnAt R.length p c k) = false := by
  obtain ⟨t, ht⟩ : ∃ t, t ∈ elders R := by
    cases e : elders R with
    | nil => exact absurd e hne
    | cons a l => exact ⟨a, List.mem_cons_self⟩
  obtain ⟨row, g, h1, h2, _⟩ := mem_elders.mp ht
  have hq : t.2.1 < R.length := (List.getElem?_eq_some_iff.mp h1).1
  have hrow : R.getD t.2.1 [] = row := by rw [List.getD_eq_getElem?_getD, h1]; rfl
  -- a step number at which the place is that one, with nothing taken
  obtain ⟨k, hk1, hk2, hk3⟩ : ∃ k, 1 ≤ k ∧ k ≤ R.length ∧ (p + k) % R.length = t.2.1 := by
    by_cases h : t.2.1 ≤ p
    · refine ⟨t.2.1 + R.length - p, by omega, by omega, ?_⟩
      have : p + (t.2.1 + R.length - p) = t.2.1 + R.length := by omega
      rw [this, Nat.add_mod_right, Nat.mod_eq_of_lt hq]
    · refine ⟨t.2.1 - p, by omega, by omega, ?_⟩
      have : p + (t.2.1 - p) = t.2.1 := by omega
      rw [this, Nat.mod_eq_of_lt hq]
  have hst : stands R shares (turnAt R.length p c k) = true := by
    obtain ⟨j, rfl⟩ : ∃ j, k = j + 1 := ⟨k - 1, by omega⟩
    unfold stands
    rw [turnAt_place hp, hk3, hrow, turnAt_count]
    have e1 : row.isEmpty = false := by
      cases row with
      | nil => simp at h2
      | cons a l => rfl
    rw [e1]
    have := hs _ hq
    have e2 : decide ((0 : Int) < shares.getD t.2.1 0) = true := decide_eq_true (by omega)
    rw [e2]; rfl
  -- the least such step
  have least : ∀ n, (∃ m, m < n ∧ stands R shares (turnAt R.length p c m) = true ∧ ∀ k, k < m → stands R shares (turnAt R.length p c k) = false) ∨ ∀ k, k < n → stands R shares (turnAt R.length p c k) = false := by
    intro n
    induction n with
    | zero => exact .inr fun k h => absurd h (by omega)
    | succ n ih =>
      rcases ih with ⟨m, a, b, d⟩ | h
      · exact .inl ⟨m, by omega, b, d⟩
      · cases e : stands R shares (turnAt R.length p c n) with
        | true => exact .inl ⟨n, by omega, e, h⟩
        | false =>
          refine .inr fun k hk => ?_
          by_cases q : k = n
          · subst q; exact e
          · exact h k (by omega)
  rcases least (R.length + 1) with ⟨m, a, b, d⟩ | h
  · exact ⟨m, by omega, b, d⟩
  · rw [h k (by omega)] at hst; cases hst

/-! meet -/
/-- the number of the first good of a parcel -/
def firstOf (row : List (Gd S)) (pc : S) : Option Nat := row.findIdx? fun g => decide (g.2.2.2 = pc)
def fopTo (R : List (List (Gd S))) (pc : S) (i : Nat) : List (Nat × Nat) := (R.zipIdx.take i).filterMap fun p => (firstOf p.1 pc).map fun j => (p.2, j)
def fop (R : List (List (Gd S))) (pc : S) : List (Nat × Nat) := R.zipIdx.filterMap fun p => (firstOf p.1 pc).map fun j => (p.2, j)
theorem fopTo_succ {R : List (List (Gd S))} {pc : S} {i : Nat} {row : List (Gd S)} (h : R[i]? = some row) : fopTo R pc (i + 1) = fopTo R pc i ++ ((firstOf row pc).map fun j => (i, j)).toList := by
  unfold fopTo
  rw [List.take_add_one, List.getElem?_zipIdx, h]
  simp only [Option.map_some, Option.toList_some, List.filterMap_append, Nat.zero_add]
  cases e : firstOf row pc <;> simp [List.filterMap_cons, e]
theorem fopTo_all (R : List (List (Gd S))) (pc : S) : fopTo R pc R.length = fop R pc := by
  unfold fopTo fop
  rw [List.take_of_length_le (by simp)]
theorem fopTo_length {R : List (List (Gd S))} {pc : S} (i : Nat) : (fopTo R pc i).length ≤ i := by
  unfold fopTo
  exact Nat.le_trans (List.length_filterMap_le _ _) (by rw [List.length_take]; exact Nat.min_le_left _ _)
def whole (R : List (List (Gd S))) (pc : S) : Bool := R.all fun row => (firstOf row pc).isSome
/-- all places have one: the spots, place by place -/
theorem fop_whole (R : List (List (Gd S))) (pc : S) : (decide ((fop R pc).length = R.length)) = whole R pc ∧ (whole R pc = true → fop R pc = R.zipIdx.map fun p => (p.2, (firstOf p.1 pc).getD 0)) := by
  have go : ∀ (R : List (List (Gd S))) (k : Nat), ((R.zipIdx k).filterMap fun p => (firstOf p.1 pc).map fun j => (p.2, j)).length ≤ R.length ∧
      (whole R pc = true → ((R.zipIdx k).filterMap fun p => (firstOf p.1 pc).map fun j => (p.2, j)) = (R.zipIdx k).map fun p => (p.2, (firstOf p.1 pc).getD 0)) ∧
      (whole R pc = false → ((R.zipIdx k).filterMap fun p => (firstOf p.1 pc).map fun j => (p.2, j)).length < R.length) := by
    intro R
    induction R with
    | nil => intro k; exact ⟨Nat.le_refl _, fun _ => rfl, fun h => by simp [whole] at h⟩
    | cons r R ih =>
      intro k
      obtain ⟨h1, h2, h3⟩ := ih (k + 1)
      rw [List.zipIdx_cons]
      cases e : firstOf r pc with
      | none =>
        rw [List.filterMap_cons_none (f := fun p : List (Gd S) × Nat => (firstOf p.1 pc).map fun j => (p.2, j)) (by simp [e])]
        refine ⟨by simp; omega, fun h => ?_, fun h => by simp; omega⟩
        unfold whole at h
        simp [e] at h
      | some j =>
        rw [List.filterMap_cons_some (f := fun p : List (Gd S) × Nat => (firstOf p.1 pc).map fun j => (p.2, j)) (b := (k, j)) (by simp [e]), List.map_cons]
        have ew : whole (r :: R) pc = whole R pc := by unfold whole; simp [e]
        refine ⟨by simp; omega, fun h => ?_, fun h => ?_⟩
        · rw [ew] at h
          rw [h2 h]
          simp [e]
        · rw [ew] at h
          have := h3 h
          simp; omega
  obtain ⟨h1, h2, h3⟩ := go R 0
  refine ⟨?_, h2⟩
  cases e : whole R pc with
  | true =>
    have := h2 e
    have e2 : (fop R pc).length = R.length := by
      show ((R.zipIdx 0).filterMap _).length = _
      rw [this]; simp
    simp [e2]
  | false =>
    have := h3 e
    have e2 : ¬ (fop R pc).length = R.length := by
      show ¬ ((R.zipIdx 0).filterMap _).length = _
      omega
    simp [e2]
end Mg

set_option Elab.async false
set_option linter.all false
set_option maxRecDepth 100000
set_option maxHeartbeats 4000000
/-! ### the program's defs -/
namespace Mg
open L2 PySem PyProof.Rows
def top (i : Nat) : Stmt := PySem.Challenge.pw_mergeline_k26_greatest_loads.main.body.getD i (.Pass ⟨0, 0, 0, 0⟩)
def goodD (g : Gd Str) : PyData := .tuple [.int g.1, .int g.2.1, .str g.2.2.1, .str g.2.2.2]
def rowD (r : List (Gd Str)) : PyData := .list (r.map goodD)
def rowsL (R : List (List (Gd Str))) : List PyData := R.map rowD
def rowsD (R : List (List (Gd Str))) : PyData := .list (rowsL R)
def spotD (p : Nat × Nat) : PyData := .tuple [.int p.1, .int p.2]
def triD (t : Tri) : PyData := tupD (enc t)
theorem rowsL_get {R : List (List (Gd Str))} {i : Nat} {row : List (Gd Str)} (h : R[i]? = some row) : (rowsL R)[i]? = some (.list (row.map goodD)) := by
  unfold rowsL
  rw [List.getElem?_map, h]
  rfl
theorem goods_get {row : List (Gd Str)} {j : Nat} {g : Gd Str} (h : row[j]? = some g) : (row.map goodD)[j]? = some (goodD g) := by
  rw [List.getElem?_map, h]
  rfl
theorem small {n : Nat} (h : n ≤ 1000) : n ≤ sizeLine := Nat.le_trans h (by rw [sizeLine_eq]; decide)
theorem small' {n : Nat} (h : n ≤ 1000) : n < sizeLine := Nat.lt_of_le_of_lt h (by rw [sizeLine_eq]; decide)

section
variable {P : Program} {w : World} {K : PySem.W.Frag} {mg : Str → Option Value} {base : Heap} {f : Addr} {k : Nat}
/-! good_at -/
def Rgood (ds : List PyData) (d : PyData) : Prop := ∃ (rows row : List PyData) (i j : Nat), ds = [.list rows, .tuple [.int i, .int j]] ∧ rows[i]? = some (.list row) ∧ row[j]? = some d
theorem b_good {ds : List PyData} {d : PyData} (h : Rgood ds d) : BodyD P w K mg base ["rows", "spot"] "good_at" (top 4) f k ds (.rt d) := by
  obtain ⟨rows, row, i, j, rfl, h1, h2⟩ := h
  intro cdv A outer s H E hr
  exact vss_one (vs_ret (ve_ix (ve_ix (ve_var 0 rfl) (ve_ixT (ve_var 1 rfl) ve_int rfl) (atI_nat h1)) (ve_ixT (ve_var 1 rfl) ve_int rfl) (atI_nat h2)))
theorem sc_good : FnScope ["rows", "spot"] ["rows", "spot"] (defScope (top 4)) := ⟨rfl, rfl, rfl, by decide +kernel, rfl, by decide +kernel, by decide +kernel⟩
theorem l_good {ds : List PyData} {d : PyData} (h : Rgood ds d) : ds.length = ["rows", "spot"].length := by obtain ⟨_, _, _, _, rfl, _⟩ := h; rfl
theorem f_good {fd : FuncData} (F : Fun K "good_at" "good_at" (top 4) f fd) : FnOk P w K mg base CX0 1 f fd ["rows", "spot"] (spD K Rgood) := fn_D F sc_good (fun _ _ h => l_good h) fun _ _ h => b_good h

/-! waited -/
def Rwait (ds : List PyData) (d : PyData) : Prop := ∃ (rows row : List PyData) (i j : Nat) (now since : Int) (a b c : PyData), ds = [.list rows, .tuple [.int i, .int j], .int now] ∧ rows[i]? = some (.list row) ∧ row[j]? = some (.tuple [a, .int since, b, c]) ∧ d = .int (now - since)
theorem b_wait (C : Callable P w K mg base 1 "good_at" ["rows", "spot"] (spD K Rgood)) {ds : List PyData} {d : PyData} (h : Rwait ds d) : BodyD P w K mg base ["rows", "spot", "now"] "waited" (top 5) f (k + 1) ds (.rt d) := by
  obtain ⟨rows, row, i, j, now, since, a, b, c, rfl, h1, h2, rfl⟩ := h
  intro cdv A outer s H E hr
  exact vss_one (vs_ret (ve_sub (ve_var 2 rfl) (ve_ixT (ve_call C (hr.mono (by omega)) (va_cons (ve_var 0 rfl) (va_cons (ve_var 1 rfl) va_nil)) ⟨rows, row, i, j, rfl, h1, h2⟩) ve_int rfl)))
theorem sc_wait : FnScope ["rows", "spot", "now"] ["rows", "spot", "now"] (defScope (top 5)) := ⟨rfl, rfl, rfl, by decide +kernel, rfl, by decide +kernel, by decide +kernel⟩
theorem f_wait {fd : FuncData} (F : Fun K "waited" "waited" (top 5) f fd) (C : Callable P w K mg base 1 "good_at" ["rows", "spot"] (spD K Rgood)) : FnOk P w K mg base CX0 2 f fd ["rows", "spot", "now"] (spD K Rwait) :=
  fn_D (k := 1) F sc_wait (fun _ _ h => by obtain ⟨_, _, _, _, _, _, _, _, _, rfl, _⟩ := h; rfl) fun _ _ h => b_wait (k := 0) C h

/-! spots_by_age -/
def Fspot : PyData → Option PyData
  | .tuple [_, a, b] => some (.tuple [a, b])
  | _ => none
theorem Fspot_tri (l : List Tri) : (l.map triD).filterMap Fspot = l.map fun t => spotD (spotT t) := by
  induction l with
  | nil => rfl
  | cons t l ih =>
    rw [List.map_cons, List.filterMap_cons_some (f := Fspot) (b := spotD (spotT t)) rfl, ih]
    rfl
def Sb (R : List (List (Gd Str))) : Prop := Srtb ((aged R).map enc)
theorem Sb.le {R : List (List (Gd Str))} (h : Sb R) : total R ≤ 78 := by
  have := Srtb.le h
  rw [List.length_map, aged_length] at this
  exact this
def Rspots (ds es : List PyData) : Prop := ∃ R : List (List (Gd Str)), ds = [rowsD R] ∧ Sb R ∧ es = (elders R).map fun t => spotD (spotT t)
abbrev Nspots : List Str := ["rows", "aged", "place", "goods", "number", "good"]
theorem sc_spots : FnScope Nspots ["rows"] (defScope (top 3)) := ⟨rfl, rfl, rfl, by decide +kernel, rfl, by decide +kernel, by decide +kernel⟩
theorem rowT_length (i : Nat) (row : List (Gd Str)) : (rowT i row).length = row.length := by simp [rowT]
theorem agedTo_le (R : List (List (Gd Str))) (i : Nat) : (agedTo R i).length ≤ total R := by
  have e : aged R = agedTo R i ++ (R.zipIdx.drop i).flatMap fun p => rowT p.2 p.1 := by
    unfold aged agedTo
    rw [← List.flatMap_append, List.take_append_drop]
  rw [← aged_length, e, List.length_append]
  omega
theorem b_spots (m1 : mg "enumerate" = none) (m2 : mg "sorted" = none) {ds es : List PyData} (h : Rspots ds es) : BodyD P w K mg base Nspots "spots_by_age" (top 3) f k ds (.ro es) := by
  obtain ⟨R, rfl, hsb, rfl⟩ := h
  have ht := hsb.le
  intro cdv A outer s H E hr
  have nd : Nspots.Nodup := sc_spots.nd
  refine vss_cons (vs_setO 1 (vo_lst va_nil) nd) ?_
  refine vss_cons (vs_for (tgt := .tup [2, 3]) (o := .nx [.val (rowsD R), .own ((agedTo R R.length).map triD), .un, .un, .un, .un]) PassesOwn.never rfl (vi_enum (ds := rowsL R) (ve_var 0 rfl) m1)
    (pg_tup rfl (pgs_cons (pg_name (i := 2) nd rfl (Or.inl rfl)) (pgs_cons (pg_name (i := 3) nd rfl (Or.inl rfl)) pgs_nil))) (fun i => [.val (rowsD R), .own ((agedTo R i).map triD), .un, .un, .un, .un]) R.length rfl (by rw [enumD_length]; simp [rowsL]) (fun i d hi hd => ?_) (.inl ⟨by rw [enumD_length]; simp [rowsL], rfl⟩)) ?_
  · obtain ⟨x, hx, rfl⟩ := enumD_get hd
    obtain ⟨row, hrow⟩ : ∃ row, R[i]? = some row := ⟨R[i], by simp [hi]⟩
    rw [rowsL_get hrow] at hx
    cases hx
    refine ⟨_, rfl, ?_⟩
    have hle : (rowT i row).length ≤ 78 := by
      have := agedTo_le R (i + 1)
      rw [agedTo_succ hrow, List.length_append] at this
      omega
    refine vss_out (δ' := [.val (rowsD R), .own ((agedTo R (i + 1)).map triD), .val (.int i), .val (.list (row.map goodD)), .un, .un]) (vss_one ?_) ⟨.inr rfl, .inr rfl, .inl rfl, .inl rfl, .inr rfl, .inr rfl, trivial⟩
    refine vs_for (tgt := .tup [4, 5]) PassesOwn.never rfl (vi_enum (ds := row.map goodD) (ve_var 3 rfl) m1)
      (pg_tup rfl (pgs_cons (pg_name (i := 4) nd rfl (Or.inl rfl)) (pgs_cons (pg_name (i := 5) nd rfl (Or.inl rfl)) pgs_nil))) (fun j => [.val (rowsD R), .own ((agedTo R i ++ (rowT i row).take j).map triD), .val (.int i), .val (.list (row.map goodD)), .un, .un]) row.length (by rw [List.take_zero, List.append_nil]; rfl) (by rw [enumD_length]; simp) (fun j d hj hd => ?_)
      (.inl ⟨by rw [enumD_length]; simp, by rw [agedTo_succ hrow, List.take_of_length_le (by rw [rowT_length]; exact Nat.le_refl _)]⟩)
    obtain ⟨x, hx, rfl⟩ := enumD_get hd
    obtain ⟨g, hg⟩ : ∃ g, row[j]? = some g := ⟨row[j], by simp [hj]⟩
    rw [goods_get hg] at hx
    cases hx
    refine ⟨_, rfl, ?_⟩
    refine vss_out (δ' := [.val (rowsD R), .own ((agedTo R i ++ (rowT i row).take j).map triD ++ [.tuple [.int g.2.1, .int i, .int j]]), .val (.int i), .val (.list (row.map goodD)), .val (.int j), .val (goodD g)]) ?_ ⟨.inr rfl, .inr ?_, .inr rfl, .inr rfl, .inl rfl, .inl rfl, trivial⟩
    · refine vss_one (vs_append 1 rfl (ve_tup (va_cons (ve_ixT (ve_var 5 rfl) ve_int rfl) (va_cons (ve_var 2 rfl) (va_cons (ve_var 4 rfl) va_nil)))) (small' ?_))
      have := agedTo_le R i
      simp only [List.length_map, List.length_append, List.length_take]
      omega
    · have e : (rowT i row).take (j + 1) = (rowT i row).take j ++ [(g.2.1, i, j)] := by
        rw [List.take_add_one]
        have : (rowT i row)[j]? = some (g.2.1, i, j) := by unfold rowT; simp [hg]
        rw [this]; rfl
      rw [e, ← List.append_assoc, List.map_append (l₂ := [_])]
      rfl
  · rw [agedTo_all]
    refine vss_freeze 1 rfl ?_
    refine vss_one (vs_retO ?_)
    have hl : (aged R).length ≤ 78 := by rw [aged_length]; exact ht
    have srt : VO (cxOf CX0 P w K mg base Nspots "spots_by_age" (defScope (top 3)) f cdv A outer s H E).nox (.Call (.Name "sorted" ⟨19, 56, 19, 62⟩) [.Name "aged" ⟨19, 63, 19, 67⟩] [] ⟨19, 56, 19, 68⟩) [.val (rowsD R), .val (.list ((aged R).map triD)), .un, .un, .un, .un] (((elders R).map enc).map tupD) :=
      vo_callB call_sorted (coSorted (nss := (aged R).map enc) ((elders_perm R).map enc) (elders_up R) (fun ns hn => by
        obtain ⟨t, _, rfl⟩ := List.mem_map.mp hn
        intro z; cases z) hsb) (va_cons (ve_var 1 (by rw [List.map_map]; rfl)) va_nil) m2 boot_sorted
    have e1 : ((elders R).map enc).map tupD = (elders R).map triD := by rw [List.map_map]; rfl
    rw [e1] at srt
    rw [← Fspot_tri]
    have nc : (["since", "place", "number"] : List Str).Nodup := by decide +kernel
    exact vo_comp (own := ["since", "place", "number"]) (cap := []) (N := ["since", "place", "number"]) (cl := []) (tgt := .tup [0, 1, 2])
      rfl ⟨rfl, by decide +kernel, by decide +kernel, rfl, rfl, by simp⟩ (vi_list srt.ve) (fun f s3 H3 => pg_tup rfl (pgs_cons (pg_name (i := 0) nc rfl (Or.inl rfl)) (pgs_cons (pg_name (i := 1) nc rfl (Or.inl rfl)) (pgs_cons (pg_name (i := 2) nc rfl (Or.inl rfl)) pgs_nil)))) rfl
      (small (by rw [List.length_map, elders_length]; omega)) (fun d hd => by
        obtain ⟨t, _, rfl⟩ := List.mem_map.mp hd
        exact ⟨_, rfl, fun f s3 H3 => vts_nil, fun r hr f s3 H3 => by cases hr; exact ve_tup (va_cons (ve_var 1 rfl) (va_cons (ve_var 2 rfl) va_nil))⟩)
theorem f_spots {fd : FuncData} (F : Fun K "spots_by_age" "spots_by_age" (top 3) f fd) (m1 : mg "enumerate" = none) (m2 : mg "sorted" = none) : FnOk P w K mg base CX0 1 f fd ["rows"] (spO K Rspots) :=
  fn_O F sc_spots (fun _ _ h => by obtain ⟨_, rfl, _⟩ := h; rfl) fun _ _ h => b_spots m1 m2 h
end
end Mg

set_option Elab.async false
set_option linter.all false
set_option maxRecDepth 100000
set_option maxHeartbeats 4000000
namespace Mg
open L2 PySem PyProof.Rows
section
variable {P : Program} {w : World} {K : PySem.W.Frag} {mg : Str → Option Value} {base : Heap} {f : Addr} {k : Nat}
/-! load_by_turns -/
abbrev Nturns : List Str := ["shares", "rows", "turn", "place", "taken"]
theorem sc_turns : FnScope Nturns ["shares", "rows", "turn"] (defScope (top 6)) := ⟨rfl, rfl, rfl, by decide +kernel, rfl, by decide +kernel, by decide +kernel⟩
def sharesD (shares : List Int) : PyData := .tuple (shares.map .int)
def turnD (p : Nat) (c : Int) : PyData := .tuple [.int p, .int c]
/-- the step at which the turn stands -/
def TurnM (R : List (List (Gd Str))) (shares : List Int) (p : Nat) (c : Int) (m : Nat) : Prop := m ≤ R.length ∧ stands R shares (turnAt R.length p c m) = true ∧ ∀ k, k < m → stands R shares (turnAt R.length p c k) = false
def Rturns (ds es : List PyData) (d : PyData) : Prop := ∃ (R : List (List (Gd Str))) (shares : List Int) (p : Nat) (c : Int) (m : Nat), ds = [sharesD shares, rowsD R, turnD p c] ∧ p < R.length ∧ shares.length = R.length ∧ TurnM R shares p c m ∧
  es = [spotD ((turnAt R.length p c m).1, 0)] ∧ d = turnD (turnAt R.length p c m).1 ((turnAt R.length p c m).2 + 1)
theorem turnAt_succ (n p : Nat) (c : Int) (k : Nat) : turnAt n p c (k + 1) = (((turnAt n p c k).1 + 1) % n, 0) := rfl
theorem b_turns (m1 : mg "len" = none) {ds es : List PyData} {d : PyData} (h : Rturns ds es d) : BodyD P w K mg base Nturns "load_by_turns" (top 6) f k ds (.r2 es d) := by
  obtain ⟨R, shares, p, c, m, rfl, hp, hs, ⟨hm, ht, hn⟩, rfl, rfl⟩ := h
  intro cdv A outer s H E hr
  have nd : Nturns.Nodup := sc_turns.nd
  have tst : ∀ q : Nat × Int, q.1 < R.length → VT (cxOf CX0 P w K mg base Nturns "load_by_turns" (defScope (top 6)) f cdv A outer s H E).nox
      (.BoolOp .Or [.UnaryOp .Not (.Subscript (.Name "rows" ⟨27, 14, 27, 18⟩) (.Name "place" ⟨27, 19, 27, 24⟩) ⟨27, 14, 27, 25⟩) ⟨27, 10, 27, 25⟩, .Compare (.Name "taken" ⟨27, 29, 27, 34⟩) [.GtE] [.Subscript (.Name "shares" ⟨27, 38, 27, 44⟩) (.Name "place" ⟨27, 45, 27, 50⟩) ⟨27, 38, 27, 51⟩] ⟨27, 29, 27, 51⟩] ⟨27, 10, 27, 51⟩)
      [.val (sharesD shares), .val (rowsD R), .val (turnD p c), .val (.int q.1), .val (.int q.2)] (!stands R shares q) := by
    intro q hq
    have e1 : R[q.1]? = some (R.getD q.1 []) := by rw [List.getD_eq_getElem?_getD]; simp [hq]
    have e2 : (shares.map PyData.int)[q.1]? = some (.int (shares.getD q.1 0)) := by
      rw [List.getElem?_map, List.getD_eq_getElem?_getD, List.getElem?_eq_getElem (by omega)]; rfl
    have v := vt_or (X := (cxOf CX0 P w K mg base Nturns "load_by_turns" (defScope (top 6)) f cdv A outer s H E).nox) (δ := [.val (sharesD shares), .val (rowsD R), .val (turnD p c), .val (.int q.1), .val (.int q.2)]) (pos := ⟨27, 10, 27, 51⟩)
      (vt_not (pos := ⟨27, 10, 27, 25⟩) (vt_tru (a := .Subscript (.Name "rows" ⟨27, 14, 27, 18⟩) (.Name "place" ⟨27, 19, 27, 24⟩) ⟨27, 14, 27, 25⟩) (ve_ix (ve_var 1 rfl) (ve_var 3 rfl) (atI_nat (rowsL_get e1))) rfl))
      (fun _ => vt_ge (a := .Name "taken" ⟨27, 29, 27, 34⟩) (b := .Subscript (.Name "shares" ⟨27, 38, 27, 44⟩) (.Name "place" ⟨27, 45, 27, 50⟩) ⟨27, 38, 27, 51⟩) (pos := ⟨27, 29, 27, 51⟩) (ve_var 4 rfl) (ve_ixT (ve_var 0 rfl) (ve_var 3 rfl) (atI_nat e2)))
    have e : (!stands R shares q) = (!(!(List.map goodD (R.getD q.1 [])).isEmpty) || decide (shares.getD q.1 0 ≤ q.2)) := by
      unfold stands
      rw [Bool.not_and]
      congr 1
      · cases R.getD q.1 [] <;> rfl
      · rw [← decide_not]; congr 1; simp
    rw [e]
    exact v
  refine vss_cons (vs_set 3 (ve_ixT (ve_var 2 rfl) ve_int rfl) nd) ?_
  refine vss_cons (vs_set 4 (ve_ixT (ve_var 2 rfl) ve_int rfl) nd) ?_
  refine vss_cons (vs_while PassesOwn.never (fun k => [.val (sharesD shares), .val (rowsD R), .val (turnD p c), .val (.int (turnAt R.length p c k).1), .val (.int (turnAt R.length p c k).2)]) m rfl (fun k hk => ?_) (fun k hk => ?_) ?_) ?_
  · have := tst (turnAt R.length p c k) (turnAt_lt hp k)
    rw [hn k hk] at this
    exact this
  · have e : ((((turnAt R.length p c k).1 : Int) + 1) % ((rowsL R).length : Int)) = (((turnAt R.length p c (k + 1)).1 : Nat) : Int) := by
      rw [turnAt_succ]
      simp [rowsL]
    refine vss_cons (vs_set 3 (ve_mod (ve_add (ve_var 3 rfl) ve_int) (ve_len (ve_var 1 rfl) m1) (by simp only [rowsL, List.length_map]; omega)) nd) ?_
    rw [e]
    exact vss_one (vs_set 4 ve_int nd)
  · have := tst (turnAt R.length p c m) (turnAt_lt hp m)
    rw [ht] at this
    exact this
  · exact vss_one (vs_ret2 (v2_tup (vo_lst (va_cons (ve_tup (va_cons (ve_var 3 rfl) (va_cons ve_int va_nil))) va_nil)) (ve_tup (va_cons (ve_var 3 rfl) (va_cons (ve_add (ve_var 4 rfl) ve_int) va_nil)))))
theorem f_turns {fd : FuncData} (F : Fun K "load_by_turns" "load_by_turns" (top 6) f fd) (m1 : mg "len" = none) : FnOk P w K mg base CX0 1 f fd ["shares", "rows", "turn"] (sp2 K Rturns) :=
  fn_2 F sc_turns (fun _ _ _ h => by obtain ⟨_, _, _, _, _, rfl, _⟩ := h; rfl) fun _ _ _ h => b_turns m1 h
end
end Mg

set_option Elab.async false
set_option linter.all false
set_option maxRecDepth 100000
set_option maxHeartbeats 4000000
namespace Mg
open L2 PySem PyProof.Rows
/-- texts that are compared -/
def okS (x : Str) : Prop := PyData.canLay0 (.str x) = true
def okG (g : Gd Str) : Prop := okS g.2.2.1 ∧ okS g.2.2.2
def okR (R : List (List (Gd Str))) : Prop := ∀ row ∈ R, ∀ g ∈ row, okG g
theorem eqv_str (a b : Str) : PyData.eqv (.str a) (.str b) = decide (a = b) := by
  rw [PyData.eqv, Bool.eq_iff_iff]
  simp
theorem lay_good {n : Nat} {g : Gd Str} (h : okG g) : Lay (n + 1) (goodD g) := lay_tup fun d hd => by
  simp only [List.mem_cons, List.not_mem_nil, or_false] at hd
  rcases hd with rfl | rfl | rfl | rfl
  · exact lay_int _ _
  · exact lay_int _ _
  · exact lay_str h.1
  · exact lay_str h.2
def parcelsD (row : List (Gd Str)) : List PyData := row.map fun g => .str g.2.2.2
theorem any_first (row : List (Gd Str)) (pc : Str) : anyEq (.str pc) (.list (parcelsD row)) = (firstOf row pc).isSome := by
  show (parcelsD row).any _ = _
  unfold parcelsD firstOf
  rw [List.any_map, List.findIdx?_isSome]
  exact congrArg (fun p => row.any p) (funext fun g => eqv_str _ _)
theorem first_at {row : List (Gd Str)} {pc : Str} {j : Nat} (h : firstOf row pc = some j) : (∃ hj : j < (parcelsD row).length, PyData.eqv (parcelsD row)[j] (.str pc) = true) ∧ ∀ m (hm : m < (parcelsD row).length), m < j → PyData.eqv (parcelsD row)[m] (.str pc) = false := by
  unfold firstOf at h
  rw [List.findIdx?_eq_some_iff_getElem] at h
  obtain ⟨h1, h2, h3⟩ := h
  refine ⟨⟨by simpa [parcelsD] using h1, ?_⟩, fun m hm hmj => ?_⟩
  · simp only [parcelsD, List.getElem_map]
    rw [eqv_str]; exact h2
  · simp only [parcelsD, List.getElem_map]
    rw [eqv_str]
    have := h3 m hmj
    simpa using this
section
variable {P : Program} {w : World} {K : PySem.W.Frag} {mg : Str → Option Value} {base : Heap} {f : Addr} {k : Nat}
/-! first_of_parcel -/
abbrev Nfop : List Str := ["parcel", "rows", "spots", "place", "goods", "parcels"]
theorem sc_fop : FnScope Nfop ["parcel", "rows"] (defScope (top 12)) := ⟨rfl, rfl, rfl, by decide +kernel, rfl, by decide +kernel, by decide +kernel⟩
def Rfop (ds es : List PyData) : Prop := ∃ (R : List (List (Gd Str))) (pc : Str), ds = [.str pc, rowsD R] ∧ R.length ≤ 100 ∧ (∀ row ∈ R, row.length ≤ 100) ∧ okS pc ∧ okR R ∧ es = (fop R pc).map spotD
def Fparcel : PyData → Option PyData
  | .tuple [_, _, _, a] => some a
  | _ => none
theorem b_fop (m1 : mg "enumerate" = none) {ds es : List PyData} (h : Rfop ds es) : BodyD P w K mg base Nfop "first_of_parcel" (top 12) f k ds (.ro es) := by
  obtain ⟨R, pc, rfl, hn, hrn, hpc, hok, rfl⟩ := h
  intro cdv A outer s H E hr
  have nd : Nfop.Nodup := sc_fop.nd
  have nc : (["good"] : List Str).Nodup := by decide +kernel
  refine vss_cons (vs_setO 2 (vo_lst va_nil) nd) ?_
  refine vss_cons (vs_for (tgt := .tup [3, 4]) (o := .nx [.val (.str pc), .val (rowsD R), .own ((fopTo R pc R.length).map spotD), .un, .un, .un]) PassesOwn.never rfl (vi_enum (ds := rowsL R) (ve_var 1 rfl) m1)
    (pg_tup rfl (pgs_cons (pg_name (i := 3) nd rfl (Or.inl rfl)) (pgs_cons (pg_name (i := 4) nd rfl (Or.inl rfl)) pgs_nil))) (fun i => [.val (.str pc), .val (rowsD R), .own ((fopTo R pc i).map spotD), .un, .un, .un]) R.length rfl (by rw [enumD_length]; simp [rowsL]) (fun i d hi hd => ?_) (.inl ⟨by rw [enumD_length]; simp [rowsL], rfl⟩)) ?_
  · obtain ⟨x, hx, rfl⟩ := enumD_get hd
    obtain ⟨row, hrow⟩ : ∃ row, R[i]? = some row := ⟨R[i], by simp [hi]⟩
    rw [rowsL_get hrow] at hx
    cases hx
    have hmem : row ∈ R := List.mem_of_getElem? hrow
    refine ⟨_, rfl, ?_⟩
    refine vss_cons (vs_setC 5 (own := ["good"]) (cap := []) (N := ["good"]) (cl := []) (tgt := .one 0) (F := Fparcel) (ds := row.map goodD) rfl ⟨rfl, by decide +kernel, by decide +kernel, rfl, rfl, by simp⟩ (vi_list (ve_var 4 rfl)) (fun f s3 H3 => pg_name (i := 0) nc rfl (Or.inl rfl)) rfl
      (small (by rw [List.length_map]; have := hrn row hmem; omega)) (fun d hd => by
        obtain ⟨g, _, rfl⟩ := List.mem_map.mp hd
        exact ⟨_, rfl, fun f s3 H3 => vts_nil, fun r hr f s3 H3 => by cases hr; exact ve_ixT (ve_var 0 rfl) ve_int rfl⟩) nd) ?_
    have ep : (row.map goodD).filterMap Fparcel = parcelsD row := by
      rw [filterMap_some (g := fun d => (Fparcel d).getD .none) fun d hd => by obtain ⟨g, _, rfl⟩ := List.mem_map.mp hd; rfl, List.map_map]
      rfl
    rw [ep]
    refine vss_freeze 5 rfl ?_
    have lpc : Lay 20 (.list (parcelsD row)) := (lay_lst (n := 19) fun d hd => by
      obtain ⟨g, hg, rfl⟩ := List.mem_map.mp hd
      exact lay_str (hok row hmem g hg).2)
    have tst := vt_in (X := (cxOf CX0 P w K mg base Nfop "first_of_parcel" (defScope (top 12)) f cdv A outer s H E).nox) (δ := [.val (.str pc), .val (rowsD R), .own ((fopTo R pc i).map spotD), .val (.int i), .val (.list (row.map goodD)), .val (.list (parcelsD row))]) hr rfl (lay_str hpc) lpc
      (a := .Name "parcel" ⟨63, 11, 63, 17⟩) (b := .Name "parcels" ⟨63, 21, 63, 28⟩) (pos := ⟨63, 11, 63, 28⟩) (ve_var 0 rfl) (ve_var 5 rfl)
    rw [any_first] at tst
    refine vss_out (δ' := [.val (.str pc), .val (rowsD R), .own ((fopTo R pc (i + 1)).map spotD), .val (.int i), .val (.list (row.map goodD)), .val (.list (parcelsD row))]) (vss_one ?_) ⟨.inr rfl, .inr rfl, .inr rfl, .inl rfl, .inl rfl, .inl rfl, trivial⟩
    rw [fopTo_succ hrow]
    cases ef : firstOf row pc with
    | none =>
      rw [ef] at tst
      refine vs_ifF tst ?_
      simp only [Option.map_none, Option.toList_none, List.append_nil]
      exact vss_nil
    | some j =>
      rw [ef] at tst
      refine vs_ifT tst (vss_one ?_)
      obtain ⟨f1, f2⟩ := first_at ef
      have hl := fopTo_length (R := R) (pc := pc) i
      have e : ((fopTo R pc i ++ ((some j).map fun j => (i, j)).toList).map spotD) = (fopTo R pc i).map spotD ++ [.tuple [.int i, .int j]] := by simp [spotD]
      rw [e]
      exact vs_append 2 rfl (ve_tup (va_cons (ve_var 3 rfl) (va_cons (ve_index hr (ve_var 5 rfl) (ve_var 0 rfl) lpc (lay_str hpc) f1 f2) va_nil))) (small' (by rw [List.length_map]; omega))
  · rw [fopTo_all]
    exact vss_one (vs_retV 2 rfl)
theorem f_fop {fd : FuncData} (F : Fun K "first_of_parcel" "first_of_parcel" (top 12) f fd) (m1 : mg "enumerate" = none) : FnOk P w K mg base CX0 1 f fd ["parcel", "rows"] (spO K Rfop) :=
  fn_O F sc_fop (fun _ _ h => by obtain ⟨_, _, rfl, _⟩ := h; rfl) fun _ _ h => b_fop m1 h
/-! load_met -/
abbrev Nmet : List Str := ["rows", "spots", "spot", "parcel", "load"]
theorem sc_met : FnScope Nmet ["rows", "spots"] (defScope (top 11)) := ⟨rfl, rfl, rfl, by decide +kernel, rfl, by decide +kernel, by decide +kernel⟩
def spotsD (R : List (List (Gd Str))) : List PyData := (elders R).map fun t => spotD (spotT t)
theorem spots_get {R : List (List (Gd Str))} {m : Nat} {t : Tri} (h : (elders R)[m]? = some t) : (spotsD R)[m]? = some (spotD (spotT t)) := by
  unfold spotsD
  rw [List.getElem?_map, h]
  rfl
def parcelOf (R : List (List (Gd Str))) (t : Tri) : Str := ((goodAt R (spotT t)).map fun g => g.2.2.2).getD Str.empty
/-- the parcel at t waits in all places -/
def meets (R : List (List (Gd Str))) (t : Tri) : Bool := decide (parcelOf R t ≠ Str.empty) && whole R (parcelOf R t)
/-- m is the first of the elders whose parcel waits everywhere, or there is none -/
def MeetM (R : List (List (Gd Str))) (m : Nat) (es : List (Nat × Nat)) : Prop := m ≤ (elders R).length ∧ (∀ k t, k < m → (elders R)[k]? = some t → meets R t = false) ∧
  ((m = (elders R).length ∧ es = []) ∨ ∃ t, (elders R)[m]? = some t ∧ meets R t = true ∧ es = fop R (parcelOf R t))
def Rmet (ds es : List PyData) : Prop := ∃ (R : List (List (Gd Str))) (m : Nat) (zs : List (Nat × Nat)), ds = [rowsD R, .list (spotsD R)] ∧ R.length ≤ 100 ∧ (∀ row ∈ R, row.length ≤ 100) ∧ okR R ∧ MeetM R m zs ∧ es = zs.map spotD
theorem eqv_int (a b : Int) : PyData.eqv (.int a) (.int b) = decide (a = b) := by
  rw [PyData.eqv, Bool.eq_iff_iff]
  simp
theorem b_met (m1 : mg "len" = none) (C1 : Callable P w K mg base 1 "good_at" ["rows", "spot"] (spD K Rgood)) (C2 : Callable P w K mg base 1 "first_of_parcel" ["parcel", "rows"] (spO K Rfop)) {ds es : List PyData} (h : Rmet ds es) :
    BodyD P w K mg base Nmet "load_met" (top 11) f (k + 1) ds (.ro es) := by
  obtain ⟨R, m, zs, rfl, hn, hrn, hok, ⟨hm, hno, hfin⟩, rfl⟩ := h
  intro cdv A outer s H E hr
  have nd : Nmet.Nodup := sc_met.nd
  have hr1 : Room 1 _ := hr.mono (by omega)
  have hl : (spotsD R).length = (elders R).length := by simp [spotsD]
  have turn : ∀ (t : Tri) (o : Out), t ∈ elders R → (meets R t = false → o = .nx [.val (rowsD R), .val (.list (spotsD R)), .un, .un, .un]) → (meets R t = true → o = .ro ((fop R (parcelOf R t)).map spotD)) →
      VSs (cxOf CX0 P w K mg base Nmet "load_met" (defScope (top 11)) f cdv A outer s H E).nox (suite (defBody (top 11)) 0) [.val (rowsD R), .val (.list (spotsD R)), .val (spotD (spotT t)), .un, .un] o := by
    intro t o ht o1 o2
    obtain ⟨row, g, h1, h2, h3, h4⟩ := goodAt_some ht
    have hmem : row ∈ R := List.mem_of_getElem? h1
    have hgm : g ∈ row := List.mem_of_getElem? h2
    have ep : parcelOf R t = g.2.2.2 := by unfold parcelOf; rw [h4]; rfl
    have okp : okS (parcelOf R t) := by rw [ep]; exact (hok row hmem g hgm).2
    refine vss_cons (vs_set 3 (ve_ixT (d := .str (parcelOf R t)) (ve_call C1 hr1 (va_cons (ve_var 0 rfl) (va_cons (ve_var 2 rfl) va_nil)) ⟨rowsL R, row.map goodD, t.2.1, t.2.2, rfl, rowsL_get h1, goods_get h2⟩) ve_int (by rw [ep]; rfl)) nd) ?_
    refine vss_cons (vs_setO 4 (vo_call C2 hr1 (va_cons (ve_var 3 rfl) (va_cons (ve_var 0 rfl) va_nil)) ⟨R, parcelOf R t, rfl, hn, hrn, okp, hok, rfl⟩) nd) ?_
    have e : (!PyData.eqv (.str (parcelOf R t)) (.str "") && PyData.eqv (.int ((fop R (parcelOf R t)).map spotD).length) (.int (rowsL R).length)) = meets R t := by
      unfold meets
      rw [eqv_str, eqv_int, ← (fop_whole R (parcelOf R t)).1]
      simp only [rowsL, List.length_map]
      rw [← decide_not]
      congr 1
      rw [Bool.eq_iff_iff]
      simp only [decide_eq_true_eq]
      omega
    cases em : meets R t with
    | false =>
      rw [o1 em]
      refine vss_out (vss_one (vs_ifF (VT.to (vt_and (vt_ne hr1 (lay_str okp) (lay_str (by decide +kernel)) (ve_var 3 rfl) ve_str) (fun _ => vt_thaw 4 rfl (vt_eq hr1 (lay_int _ _) (lay_int _ _) (ve_len (ve_var 4 rfl) m1) (ve_len (ve_var 0 rfl) m1)))) (e.trans em)) vss_nil)) ⟨.inr rfl, .inr rfl, .inl rfl, .inl rfl, .inl rfl, trivial⟩
    | true =>
      rw [o2 em]
      exact vss_one (vs_ifT (VT.to (vt_and (vt_ne hr1 (lay_str okp) (lay_str (by decide +kernel)) (ve_var 3 rfl) ve_str) (fun _ => vt_thaw 4 rfl (vt_eq hr1 (lay_int _ _) (lay_int _ _) (ve_len (ve_var 4 rfl) m1) (ve_len (ve_var 0 rfl) m1)))) (e.trans em)) (vss_one (vs_retV 4 rfl)))
  have step : ∀ i d, i < m → (spotsD R)[i]? = some d → ∃ δ', asgD (.one 2) d [.val (rowsD R), .val (.list (spotsD R)), .un, .un, .un] = some δ' ∧ VSs (cxOf CX0 P w K mg base Nmet "load_met" (defScope (top 11)) f cdv A outer s H E).nox (suite (defBody (top 11)) 0) δ' (.nx [.val (rowsD R), .val (.list (spotsD R)), .un, .un, .un]) := by
    intro i d hi hd
    have het : (elders R)[i]? = some ((elders R)[i]'(by omega)) := by simp
    rw [spots_get het] at hd
    cases hd
    have hf := hno i _ hi het
    exact ⟨_, rfl, turn _ _ (List.mem_of_getElem? het) (fun _ => rfl) fun z => by rw [hf] at z; cases z⟩
  rcases hfin with ⟨e1, e2⟩ | ⟨t, h1, h2, h3⟩
  · subst e1
    subst e2
    refine vss_cons (vs_for (tgt := .one 2) PassesOwn.never rfl (vi_list (ds := spotsD R) (ve_var 1 rfl)) (pg_name (i := 2) nd rfl (Or.inl rfl)) (fun _ => [.val (rowsD R), .val (.list (spotsD R)), .un, .un, .un]) (elders R).length rfl (by omega) step (.inl ⟨hl.symm, rfl⟩)) ?_
    exact vss_one (vs_retO (vo_lst (ds := []) va_nil))
  · subst h3
    refine vss_ret (vs_for (tgt := .one 2) PassesOwn.never rfl (vi_list (ds := spotsD R) (ve_var 1 rfl)) (pg_name (i := 2) nd rfl (Or.inl rfl)) (fun _ => [.val (rowsD R), .val (.list (spotsD R)), .un, .un, .un]) m rfl (by omega) step (.inr ⟨_, _, spots_get h1, rfl, rfl, turn t _ (List.mem_of_getElem? h1) (fun z => by rw [h2] at z; cases z) fun _ => rfl⟩)) rfl
theorem f_met {fd : FuncData} (F : Fun K "load_met" "load_met" (top 11) f fd) (m1 : mg "len" = none) (C1 : Callable P w K mg base 1 "good_at" ["rows", "spot"] (spD K Rgood)) (C2 : Callable P w K mg base 1 "first_of_parcel" ["parcel", "rows"] (spO K Rfop)) : FnOk P w K mg base CX0 2 f fd ["rows", "spots"] (spO K Rmet) :=
  fn_O F sc_met (fun _ _ h => by obtain ⟨_, _, _, rfl, _⟩ := h; rfl) fun _ _ h => b_met (k := 0) m1 C1 C2 h
end
end Mg

set_option Elab.async false
set_option linter.all false
set_option maxRecDepth 100000
set_option maxHeartbeats 4000000
namespace Mg
open L2 PySem PyProof.Rows
def kindOf (R : List (List (Gd Str))) (p : Nat × Nat) : Str := ((goodAt R p).map fun g => g.2.2.1).getD Str.empty
def kindIs (R : List (List (Gd Str))) (kd : Str) (t : Tri) : Bool := decide (kindOf R (spotT t) = kd)
/-- the MOST first ones -/
def cutN {α : Type} (l : List α) (most : Int) : List α := L2.cutD l none (some most)
def Fkind (R : List (List (Gd Str))) (kd : Str) : PyData → Option PyData
  | .tuple [.int i, .int j] => if kindOf R (i.toNat, j.toNat) = kd then some (.tuple [.int i, .int j]) else none
  | _ => none
theorem Fkind_spot (R : List (List (Gd Str))) (kd : Str) (t : Tri) : Fkind R kd (spotD (spotT t)) = if kindIs R kd t = true then some (spotD (spotT t)) else none := by
  show (if kindOf R (((spotT t).1 : Int).toNat, ((spotT t).2 : Int).toNat) = kd then _ else _) = _
  unfold kindIs
  simp only [Int.toNat_natCast, decide_eq_true_eq]
  rfl
theorem Fkind_spots (R : List (List (Gd Str))) (kd : Str) : ∀ l : List Tri, (l.map fun t => spotD (spotT t)).filterMap (Fkind R kd) = (l.filter (kindIs R kd)).map fun t => spotD (spotT t)
  | [] => rfl
  | t :: l => by
    rw [List.map_cons, List.filter_cons]
    by_cases h : kindIs R kd t = true
    · rw [if_pos h, List.filterMap_cons_some (f := Fkind R kd) (by rw [Fkind_spot, if_pos h]), Fkind_spots R kd l, List.map_cons]
    · rw [if_neg h, List.filterMap_cons_none (f := Fkind R kd) (by rw [Fkind_spot, if_neg h]), Fkind_spots R kd l]
theorem cut_map {α β : Type} (g : α → β) (l : List α) (lo hi : Option Int) : L2.cutD (l.map g) lo hi = (L2.cutD l lo hi).map g := by
  unfold L2.cutD
  rw [List.length_map, List.map_take, List.map_drop]
theorem cut_length {α : Type} (l : List α) (lo hi : Option Int) : (L2.cutD l lo hi).length ≤ l.length := by
  unfold L2.cutD
  rw [List.length_take, List.length_drop]
  omega
section
variable {P : Program} {w : World} {K : PySem.W.Frag} {mg : Str → Option Value} {base : Heap} {f : Addr} {k : Nat}
/-! load_of_kind -/
abbrev Nkind : List Str := ["most", "rows", "spots", "kind"]
theorem sc_kind : FnScope Nkind ["most", "rows", "spots"] (defScope (top 9)) := ⟨rfl, rfl, rfl, by decide +kernel, rfl, by decide +kernel, by decide +kernel⟩
def manyL (R : List (List (Gd Str))) (t0 : Tri) (most : Int) : List Tri := cutN ((elders R).filter (kindIs R (kindOf R (spotT t0)))) most
def Rkind (ds es : List PyData) : Prop := ∃ (R : List (List (Gd Str))) (most : Int) (t0 : Tri) (l : List Tri), ds = [.int most, rowsD R, .list (spotsD R)] ∧ elders R = t0 :: l ∧ total R ≤ 100 ∧ okR R ∧ es = (manyL R t0 most).map fun t => spotD (spotT t)
theorem b_kind (C1 : Callable P w K mg base 1 "good_at" ["rows", "spot"] (spD K Rgood)) {ds es : List PyData} (h : Rkind ds es) : BodyD P w K mg base Nkind "load_of_kind" (top 9) f (k + 1) ds (.ro es) := by
  obtain ⟨R, most, t0, l, rfl, he, htot, hok, rfl⟩ := h
  intro cdv A outer s H E hr
  have nd : Nkind.Nodup := sc_kind.nd
  have nc : (["spot", "rows", "kind"] : List Str).Nodup := by decide +kernel
  have hr1 : Room 1 _ := hr.mono (by omega)
  have kd : ∀ t ∈ elders R, ∃ row g, R[t.2.1]? = some row ∧ row[t.2.2]? = some g ∧ kindOf R (spotT t) = g.2.2.1 ∧ okS (kindOf R (spotT t)) := fun t ht => by
    obtain ⟨row, g, h1, h2, h3, h4⟩ := goodAt_some ht
    have e : kindOf R (spotT t) = g.2.2.1 := by unfold kindOf; rw [h4]; rfl
    exact ⟨row, g, h1, h2, e, by rw [e]; exact (hok row (List.mem_of_getElem? h1) g (List.mem_of_getElem? h2)).1⟩
  have h0 : (elders R)[0]? = some t0 := by rw [he]; rfl
  obtain ⟨row, g, h1, h2, h3, h4⟩ := kd t0 (List.mem_of_getElem? h0)
  refine vss_cons (vs_set 3 (ve_ixT (d := .str (kindOf R (spotT t0))) (ve_call C1 hr1 (va_cons (ve_var 1 rfl) (va_cons (ve_ix (ve_var 2 rfl) ve_int (atI_nat (spots_get h0))) va_nil)) ⟨rowsL R, row.map goodD, t0.2.1, t0.2.2, rfl, rowsL_get h1, goods_get h2⟩) ve_int (by rw [h3]; rfl)) nd) ?_
  have e : (manyL R t0 most).map (fun t => spotD (spotT t)) = L2.cutD ((spotsD R).filterMap (Fkind R (kindOf R (spotT t0)))) none (some most) := by
    unfold spotsD
    rw [Fkind_spots, cut_map]
    rfl
  rw [e]
  refine vss_one (vs_retO (vo_slice (VO.ve (vo_comp (own := ["spot"]) (cap := [1, 3]) (N := ["spot", "rows", "kind"]) (tgt := .one 0) (F := Fkind R (kindOf R (spotT t0))) rfl ⟨rfl, by decide +kernel, by decide +kernel, rfl, rfl, ?_⟩ (vi_list (ds := spotsD R) (ve_var 2 rfl)) (fun f s3 H3 => pg_name (i := 0) nc rfl (Or.inl rfl)) rfl
    (small (by unfold spotsD; rw [List.length_map, elders_length]; omega)) (fun d hd => ?_))) .no (.yes (ve_var 0 rfl))))
  · intro i hi
    rcases List.mem_cons.mp hi with rfl | hi
    · exact ⟨(by show (1 : Nat) < 4; decide), Or.inl rfl, rfl⟩
    · rcases List.mem_cons.mp hi with rfl | hi
      · exact ⟨(by show (3 : Nat) < 4; decide), Or.inl rfl, rfl⟩
      · cases hi
  · obtain ⟨t, ht, rfl⟩ := List.mem_map.mp hd
    obtain ⟨row, g, g1, g2, g3, g4⟩ := kd t ht
    have eF : (Fkind R (kindOf R (spotT t0)) (spotD (spotT t))).isSome = PyData.eqv (.str (kindOf R (spotT t))) (.str (kindOf R (spotT t0))) := by
      rw [Fkind_spot, eqv_str]
      unfold kindIs
      by_cases q : kindOf R (spotT t) = kindOf R (spotT t0)
      · simp [q]
      · simp [q]
    refine ⟨_, rfl, fun f s3 H3 => ?_, fun r hr f s3 H3 => ?_⟩
    · rw [eF]
      exact vts_one (vt_eq (k := 1) hr1 (lay_str g4) (lay_str h4) (ve_ixT (d := .str (kindOf R (spotT t))) (ve_call C1 hr1 (va_cons (ve_var 1 rfl) (va_cons (ve_var 0 rfl) va_nil)) ⟨rowsL R, row.map goodD, t.2.1, t.2.2, rfl, rowsL_get g1, goods_get g2⟩) ve_int (by rw [g3]; rfl)) (ve_var 2 rfl))
    · rw [Fkind_spot] at hr
      split at hr
      · cases hr
        exact ve_var 0 rfl
      · cases hr
theorem f_kind {fd : FuncData} (F : Fun K "load_of_kind" "load_of_kind" (top 9) f fd) (C1 : Callable P w K mg base 1 "good_at" ["rows", "spot"] (spD K Rgood)) : FnOk P w K mg base CX0 2 f fd ["most", "rows", "spots"] (spO K Rkind) :=
  fn_O F sc_kind (fun _ _ h => by obtain ⟨_, _, _, _, rfl, _⟩ := h; rfl) fun _ _ h => b_kind (k := 0) C1 h

/-! load_gathered -/
abbrev Ngat : List Str := ["most", "age", "rows", "spots", "now"]
theorem sc_gat : FnScope Ngat ["most", "age", "rows", "spots", "now"] (defScope (top 10)) := ⟨rfl, rfl, rfl, by decide +kernel, rfl, by decide +kernel, by decide +kernel⟩
def early (R : List (List (Gd Str))) (t0 : Tri) (most age now : Int) : Bool := decide (((elders R).length : Int) < most) && decide (now - t0.1 < age)
def gatL (R : List (List (Gd Str))) (t0 : Tri) (most age now : Int) : List Tri := if early R t0 most age now = true then [] else cutN (elders R) most
def Rgat (ds es : List PyData) : Prop := ∃ (R : List (List (Gd Str))) (most age now : Int) (t0 : Tri) (l : List Tri), ds = [.int most, .int age, rowsD R, .list (spotsD R), .int now] ∧ elders R = t0 :: l ∧ es = (gatL R t0 most age now).map fun t => spotD (spotT t)
theorem b_gat (m1 : mg "len" = none) (C1 : Callable P w K mg base 2 "waited" ["rows", "spot", "now"] (spD K Rwait)) {ds es : List PyData} (h : Rgat ds es) : BodyD P w K mg base Ngat "load_gathered" (top 10) f (k + 2) ds (.ro es) := by
  obtain ⟨R, most, age, now, t0, l, rfl, he, rfl⟩ := h
  intro cdv A outer s H E hr
  have hr1 : Room 2 _ := hr.mono (by omega)
  have h0 : (elders R)[0]? = some t0 := by rw [he]; rfl
  obtain ⟨row, g, h1, h2, h3, h4⟩ := goodAt_some (List.mem_of_getElem? h0)
  have hl : (spotsD R).length = (elders R).length := by simp [spotsD]
  have e : (decide (((spotsD R).length : Int) < most) && decide (now - g.2.1 < age)) = early R t0 most age now := by
    unfold early
    rw [hl, h3]
  unfold gatL
  cases ee : early R t0 most age now with
  | true =>
    rw [if_pos rfl]
    refine vss_ret (vs_ifT (VT.to (vt_and (vt_lt (ve_len (ve_var 3 rfl) m1) (ve_var 0 rfl)) (fun _ => vt_lt (ve_call C1 hr1 (va_cons (ve_var 2 rfl) (va_cons (ve_ix (ve_var 3 rfl) ve_int (atI_nat (spots_get h0))) (va_cons (ve_var 4 rfl) va_nil))) ⟨rowsL R, row.map goodD, t0.2.1, t0.2.2, now, g.2.1, _, _, _, rfl, rowsL_get h1, goods_get h2, rfl⟩) (ve_var 1 rfl))) (e.trans ee)) ?_) rfl
    exact vss_one (vs_retO (vo_lst (ds := []) va_nil))
  | false =>
    rw [if_neg Bool.false_ne_true]
    refine vss_cons (vs_ifF (VT.to (vt_and (vt_lt (ve_len (ve_var 3 rfl) m1) (ve_var 0 rfl)) (fun _ => vt_lt (ve_call C1 hr1 (va_cons (ve_var 2 rfl) (va_cons (ve_ix (ve_var 3 rfl) ve_int (atI_nat (spots_get h0))) (va_cons (ve_var 4 rfl) va_nil))) ⟨rowsL R, row.map goodD, t0.2.1, t0.2.2, now, g.2.1, _, _, _, rfl, rowsL_get h1, goods_get h2, rfl⟩) (ve_var 1 rfl))) (e.trans ee)) vss_nil) ?_
    unfold cutN
    rw [← cut_map]
    exact vss_one (vs_retO (vo_slice (ds := spotsD R) (ve_var 3 rfl) .no (.yes (ve_var 0 rfl))))
theorem f_gat {fd : FuncData} (F : Fun K "load_gathered" "load_gathered" (top 10) f fd) (m1 : mg "len" = none) (C1 : Callable P w K mg base 2 "waited" ["rows", "spot", "now"] (spD K Rwait)) : FnOk P w K mg base CX0 3 f fd ["most", "age", "rows", "spots", "now"] (spO K Rgat) :=
  fn_O F sc_gat (fun _ _ h => by obtain ⟨_, _, _, _, _, _, rfl, _⟩ := h; rfl) fun _ _ h => b_gat (k := 0) m1 C1 h
end
end Mg

set_option Elab.async false
set_option linter.all false
set_option maxRecDepth 100000
set_option maxHeartbeats 4000000
namespace Mg
open L2 PySem PyProof.Rows
def pastB (b : Option Int) (x : Int) : Bool := match b with
  | none => false
  | some v => decide (v ≤ x)
def optI : Option Int → PyData
  | none => .none
  | some b => .int b
/-- the first place where goods wait -/
def FirstPl (R : List (List (Gd Str))) (fp : Nat) : Prop := (∃ row, R[fp]? = some row ∧ row ≠ []) ∧ ∀ i row, i < fp → R[i]? = some row → row = []
theorem firstPl_ex {R : List (List (Gd Str))} {t : Tri} (h : t ∈ elders R) : ∃ fp, FirstPl R fp := by
  obtain ⟨row, g, h1, h2, _⟩ := mem_elders.mp h
  cases e : R.findIdx? (fun r => !r.isEmpty) with
  | none =>
    have := List.findIdx?_eq_none_iff.mp e row (List.mem_of_getElem? h1)
    cases row with
    | nil => simp at h2
    | cons a l => cases this
  | some fp =>
    rw [List.findIdx?_eq_some_iff_getElem] at e
    obtain ⟨a1, a2, a3⟩ := e
    refine ⟨fp, ⟨R[fp], List.getElem?_eq_getElem a1, fun z => by rw [z] at a2; cases a2⟩, fun i r hi hr => ?_⟩
    obtain ⟨z1, z2⟩ := List.getElem?_eq_some_iff.mp hr
    have := a3 i hi
    rw [z2] at this
    cases r with
    | nil => rfl
    | cons a l => simp at this
theorem firstPl_spot {R : List (List (Gd Str))} {fp : Nat} (h : FirstPl R fp) : ∃ t ∈ elders R, spotT t = (fp, 0) := by
  obtain ⟨⟨row, h1, h2⟩, _⟩ := h
  cases row with
  | nil => exact absurd rfl h2
  | cons g l => exact ⟨(g.2.1, fp, 0), mem_elders.mpr ⟨g :: l, g, h1, rfl, rfl⟩, rfl⟩
theorem firstPl_min {R : List (List (Gd Str))} {fp : Nat} (h : FirstPl R fp) {t : Tri} (ht : t ∈ elders R) : fp ≤ t.2.1 := by
  obtain ⟨row, g, h1, h2, _⟩ := mem_elders.mp ht
  rcases Nat.lt_or_ge t.2.1 fp with z | z
  · rw [h.2 _ _ z h1] at h2
    simp at h2
  · exact z
def pairI (t : Tri) : List Int := [(t.2.1 : Int), (t.2.2 : Int)]
theorem spots_tup (R : List (List (Gd Str))) : spotsD R = ((elders R).map pairI).map tupD := by
  unfold spotsD
  rw [List.map_map]
  rfl
section
variable {P : Program} {w : World} {K : PySem.W.Frag} {mg : Str → Option Value} {base : Heap} {f : Addr} {k : Nat}
/-! load_by_rank -/
abbrev Nrank : List Str := ["bound", "rows", "spots", "now"]
theorem sc_rank : FnScope Nrank ["bound", "rows", "spots", "now"] (defScope (top 8)) := ⟨rfl, rfl, rfl, by decide +kernel, rfl, by decide +kernel, by decide +kernel⟩
def Rrank (ds es : List PyData) : Prop := ∃ (R : List (List (Gd Str))) (bound : Option Int) (now : Int) (t0 : Tri) (l : List Tri) (fp : Nat), ds = [optI bound, rowsD R, .list (spotsD R), .int now] ∧ elders R = t0 :: l ∧ FirstPl R fp ∧
  es = [spotD (if pastB bound (now - t0.1) = true then spotT t0 else (fp, 0))]
theorem b_rank (m1 : mg "min" = none) (C1 : Callable P w K mg base 2 "waited" ["rows", "spot", "now"] (spD K Rwait)) {ds es : List PyData} (h : Rrank ds es) : BodyD P w K mg base Nrank "load_by_rank" (top 8) f 2 ds (.ro es) := by
  obtain ⟨R, bound, now, t0, l, fp, rfl, he, hf, rfl⟩ := h
  intro cdv A outer s H E hr
  have h0 : (elders R)[0]? = some t0 := by rw [he]; rfl
  obtain ⟨row, g, h1, h2, h3, h4⟩ := goodAt_some (List.mem_of_getElem? h0)
  have tst : VT (cxOf CX0 P w K mg base Nrank "load_by_rank" (defScope (top 8)) f cdv A outer s H E).nox (match (defBody (top 8)).getD 0 (.Pass ⟨0, 0, 0, 0⟩) with | .If c _ _ _ => c | _ => .Constant .none 0 ⟨0, 0, 0, 0⟩) (startD Nrank [optI bound, rowsD R, .list (spotsD R), .int now]) (pastB bound (now - t0.1)) := by
    cases bound with
    | none => exact VT.to (vt_and (k2 := false) (VT.to (k := false) (vt_cmp op_notN (odNotN (d := .none)) (ve_var 0 rfl) ve_non (nomark _)) rfl) (fun z => by cases z)) rfl
    | some b =>
      refine VT.to (vt_and (k2 := decide (b ≤ now - g.2.1)) (VT.to (k := true) (vt_cmp op_notN (odNotN (d := .int b)) (ve_var 0 rfl) ve_non (nomark _)) rfl) (fun _ => vt_ge (ve_call C1 hr (va_cons (ve_var 1 rfl) (va_cons (ve_ix (ve_var 2 rfl) ve_int (atI_nat (spots_get h0))) (va_cons (ve_var 3 rfl) va_nil))) ⟨rowsL R, row.map goodD, t0.2.1, t0.2.2, now, g.2.1, _, _, _, rfl, rowsL_get h1, goods_get h2, rfl⟩) (ve_var 0 rfl))) ?_
      rw [h3]
      rfl
  cases ep : pastB bound (now - t0.1) with
  | true =>
    rw [ep] at tst
    rw [if_pos rfl]
    exact vss_ret (vs_ifT tst (vss_one (vs_retO (vo_lst (va_cons (ve_ix (ve_var 2 rfl) ve_int (atI_nat (spots_get h0))) va_nil))))) rfl
  | false =>
    rw [ep] at tst
    rw [if_neg Bool.false_ne_true]
    refine vss_cons (vs_ifF tst vss_nil) ?_
    obtain ⟨t1, ht1, hs1⟩ := firstPl_spot hf
    have hz : [(fp : Int), 0] ∈ (elders R).map pairI := by
      refine List.mem_map.mpr ⟨t1, ht1, ?_⟩
      have e1 : t1.2.1 = fp := congrArg Prod.fst hs1
      have e2 : t1.2.2 = 0 := congrArg Prod.snd hs1
      unfold pairI
      rw [e1, e2]
      rfl
    have hm : ∀ y ∈ (elders R).map pairI, HT.lexLt y [(fp : Int), 0] = false := fun y hy => by
      obtain ⟨t, ht, rfl⟩ := List.mem_map.mp hy
      have := firstPl_min hf ht
      unfold pairI
      rw [HT.lexLt_cons]
      by_cases e : (t.2.1 : Int) = (fp : Int)
      · rw [if_pos e, HT.lexLt_cons]
        by_cases e2 : (t.2.2 : Int) = 0
        · rw [if_pos e2]; rfl
        · rw [if_neg e2]; exact decide_eq_false (by omega)
      · rw [if_neg e]; exact decide_eq_false (by omega)
    have hu := hu_of hr
    exact vss_one (vs_retO (vo_lst (ds := [spotD (fp, 0)]) (va_cons (ve_callB (call_minT rfl hu) (cdMinT (z := [(fp : Int), 0]) hz hm fun ns hn => by
      obtain ⟨t, _, rfl⟩ := List.mem_map.mp hn
      intro z; cases z) (va_cons (ve_var 2 (by rw [← spots_tup]; rfl)) va_nil) m1 rfl) va_nil)))
theorem f_rank {fd : FuncData} (F : Fun K "load_by_rank" "load_by_rank" (top 8) f fd) (m1 : mg "min" = none) (C1 : Callable P w K mg base 2 "waited" ["rows", "spot", "now"] (spD K Rwait)) : FnOk P w K mg base CX0 3 f fd ["bound", "rows", "spots", "now"] (spO K Rrank) :=
  fn_O F sc_rank (fun _ _ h => by obtain ⟨_, _, _, _, _, _, rfl, _⟩ := h; rfl) fun _ _ h => b_rank m1 C1 h
end
end Mg

set_option Elab.async false
set_option linter.all false
set_option maxRecDepth 100000
set_option maxHeartbeats 4000000
namespace Mg
open L2 PySem PyProof.Rows
inductive Rule where
  | turns (shares : List Int)
  | eldest
  | many (most : Int)
  | gather (most age : Int)
  | meet
  | rank (bound : Option Int)
def ruleL : Rule → List PyData
  | .turns sh => [.str "turns", sharesD sh]
  | .eldest => [.str "eldest"]
  | .many m => [.str "many", .int m]
  | .gather m a => [.str "gather", .int m, .int a]
  | .meet => [.str "meet"]
  | .rank b => [.str "rank", optI b]
def ruleD (ru : Rule) : PyData := .tuple (ruleL ru)
def wordOf : Rule → Str
  | .turns _ => "turns"
  | .eldest => "eldest"
  | .many _ => "many"
  | .gather _ _ => "gather"
  | .meet => "meet"
  | .rank _ => "rank"
theorem rule_word (ru : Rule) : atI (ruleL ru) 0 = some (.str (wordOf ru)) := by cases ru <;> rfl
theorem ok_word (ru : Rule) : okS (wordOf ru) := by
  cases ru with
  | turns _ => show PyData.canLay0 (.str "turns") = true; decide +kernel
  | eldest => show PyData.canLay0 (.str "eldest") = true; decide +kernel
  | many _ => show PyData.canLay0 (.str "many") = true; decide +kernel
  | gather _ _ => show PyData.canLay0 (.str "gather") = true; decide +kernel
  | meet => show PyData.canLay0 (.str "meet") = true; decide +kernel
  | rank _ => show PyData.canLay0 (.str "rank") = true; decide +kernel
def ageZ (R : List (List (Gd Str))) (t0 : Tri) (now : Int) : Rule → List (Nat × Nat) → Prop
  | .turns _, _ => False
  | .eldest, zs => zs = [spotT t0]
  | .many most, zs => zs = (manyL R t0 most).map spotT
  | .gather most age, zs => zs = (gatL R t0 most age now).map spotT
  | .meet, zs => ∃ m, MeetM R m zs
  | .rank b, zs => ∃ fp, FirstPl R fp ∧ zs = [if pastB b (now - t0.1) = true then spotT t0 else (fp, 0)]
structure Pre (R : List (List (Gd Str))) : Prop where
  len : R.length ≤ 6
  tot : total R ≤ 78
  sb : Sb R
  ok : okR R
theorem Pre.sm {R : List (List (Gd Str))} (h1 : R.length ≤ 6) (h2 : total R ≤ 24) (h3 : okR R) : Pre R := ⟨h1, by omega, .inl (by rw [List.length_map, aged_length]; omega), h3⟩
theorem Pre.row {R : List (List (Gd Str))} (h : Pre R) : ∀ row ∈ R, row.length ≤ 78 := by
  have go : ∀ (R : List (List (Gd Str))), ∀ row ∈ R, row.length ≤ total R := by
    intro R
    induction R with
    | nil => intro row h; cases h
    | cons r R ih =>
      intro row h
      unfold total at *
      rw [List.map_cons, List.sum_cons]
      rcases List.mem_cons.mp h with rfl | h
      · omega
      · have := ih row h; omega
  intro row hr
  have := go R row hr
  have := h.tot
  omega
theorem vt_word {X : Cx} {a : Expr} {δ : List Slot} {ru : Rule} {x : Str} {k : Nat} {j1 j2} {p2 p3 p4 p5 : Pos} {t : Bool} (y : Str) (hr : Room k X.A) (hx : okS x) (h : VE X a δ (ruleD ru)) (hy : wordOf ru = y) (ht : decide (y = x) = t) : VT X (.Compare (.Subscript a (.Constant (.int 0) j1 p2) p3) [.Eq] [.Constant (.str x) j2 p4] p5) δ t :=
  VT.to (vt_eq hr (lay_str (ok_word ru)) (lay_str hx) (ve_ixT h ve_int (rule_word ru)) ve_str) (by rw [eqv_str, hy]; exact ht)
theorem spot_comp (l : List Tri) : (l.map spotT).map spotD = l.map fun t => spotD (spotT t) := by rw [List.map_map]; rfl
section
variable {P : Program} {w : World} {K : PySem.W.Frag} {mg : Str → Option Value} {base : Heap} {f : Addr} {k : Nat}
/-! load_by_age -/
abbrev Nage : List Str := ["rule", "rows", "spots", "now"]
theorem sc_age : FnScope Nage ["rule", "rows", "spots", "now"] (defScope (top 7)) := ⟨rfl, rfl, rfl, by decide +kernel, rfl, by decide +kernel, by decide +kernel⟩
def Rage (ds es : List PyData) : Prop := ∃ (ru : Rule) (R : List (List (Gd Str))) (now : Int) (t0 : Tri) (l : List Tri) (zs : List (Nat × Nat)), ds = [ruleD ru, rowsD R, .list (spotsD R), .int now] ∧ Pre R ∧ elders R = t0 :: l ∧ ageZ R t0 now ru zs ∧ es = zs.map spotD
theorem b_age (C1 : Callable P w K mg base 2 "load_of_kind" ["most", "rows", "spots"] (spO K Rkind)) (C2 : Callable P w K mg base 3 "load_gathered" ["most", "age", "rows", "spots", "now"] (spO K Rgat)) (C3 : Callable P w K mg base 2 "load_met" ["rows", "spots"] (spO K Rmet)) (C4 : Callable P w K mg base 3 "load_by_rank" ["bound", "rows", "spots", "now"] (spO K Rrank)) {ds es : List PyData} (h : Rage ds es) :
    BodyD P w K mg base Nage "load_by_age" (top 7) f 3 ds (.ro es) := by
  obtain ⟨ru, R, now, t0, l, zs, rfl, pre, he, hz, rfl⟩ := h
  intro cdv A outer s H E hr
  have hr2 : Room 2 _ := hr.mono (by omega)
  have h0 : (elders R)[0]? = some t0 := by rw [he]; rfl
  have len := pre.len
  have tot := pre.tot
  cases ru with
  | turns sh => exact hz.elim
  | eldest =>
    cases hz
    show VSs _ _ _ (.ro [spotD (spotT t0)])
    exact vss_ret (vs_ifT (vt_word "eldest" hr (by show PyData.canLay0 _ = true; decide +kernel) (ve_var 0 rfl) rfl (by decide +kernel)) (vss_one (vs_retO (vo_lst (va_cons (ve_ix (ve_var 2 rfl) ve_int (atI_nat (spots_get h0))) va_nil))))) rfl
  | many most =>
    cases hz
    refine vss_cons (vs_ifF (vt_word "many" hr (by show PyData.canLay0 _ = true; decide +kernel) (ve_var 0 rfl) rfl (by decide +kernel)) vss_nil) ?_
    refine vss_cons (vs_ifF (vt_word "many" hr (by show PyData.canLay0 _ = true; decide +kernel) (ve_var 0 rfl) rfl (by decide +kernel)) vss_nil) ?_
    exact vss_ret (vs_ifT (vt_word "many" hr (by show PyData.canLay0 _ = true; decide +kernel) (ve_var 0 rfl) rfl (by decide +kernel)) (vss_one (vs_retO (vo_call C1 hr2 (va_cons (ve_ixT (ve_var 0 rfl) ve_int rfl) (va_cons (ve_var 1 rfl) (va_cons (ve_var 2 rfl) va_nil))) ⟨R, most, t0, l, rfl, he, by omega, pre.ok, spot_comp _⟩)))) rfl
  | gather most age =>
    cases hz
    refine vss_cons (vs_ifF (vt_word "gather" hr (by show PyData.canLay0 _ = true; decide +kernel) (ve_var 0 rfl) rfl (by decide +kernel)) vss_nil) ?_
    refine vss_cons (vs_ifF (vt_word "gather" hr (by show PyData.canLay0 _ = true; decide +kernel) (ve_var 0 rfl) rfl (by decide +kernel)) vss_nil) ?_
    refine vss_cons (vs_ifF (vt_word "gather" hr (by show PyData.canLay0 _ = true; decide +kernel) (ve_var 0 rfl) rfl (by decide +kernel)) vss_nil) ?_
    exact vss_ret (vs_ifT (vt_word "gather" hr (by show PyData.canLay0 _ = true; decide +kernel) (ve_var 0 rfl) rfl (by decide +kernel)) (vss_one (vs_retO (vo_call C2 hr (va_cons (ve_ixT (ve_var 0 rfl) ve_int rfl) (va_cons (ve_ixT (ve_var 0 rfl) ve_int rfl) (va_cons (ve_var 1 rfl) (va_cons (ve_var 2 rfl) (va_cons (ve_var 3 rfl) va_nil))))) ⟨R, most, age, now, t0, l, rfl, he, spot_comp _⟩)))) rfl
  | meet =>
    obtain ⟨m, hm⟩ := hz
    refine vss_cons (vs_ifF (vt_word "meet" hr (by show PyData.canLay0 _ = true; decide +kernel) (ve_var 0 rfl) rfl (by decide +kernel)) vss_nil) ?_
    refine vss_cons (vs_ifF (vt_word "meet" hr (by show PyData.canLay0 _ = true; decide +kernel) (ve_var 0 rfl) rfl (by decide +kernel)) vss_nil) ?_
    refine vss_cons (vs_ifF (vt_word "meet" hr (by show PyData.canLay0 _ = true; decide +kernel) (ve_var 0 rfl) rfl (by decide +kernel)) vss_nil) ?_
    refine vss_cons (vs_ifF (vt_word "meet" hr (by show PyData.canLay0 _ = true; decide +kernel) (ve_var 0 rfl) rfl (by decide +kernel)) vss_nil) ?_
    exact vss_one (vs_retO (vo_call C3 hr2 (va_cons (ve_var 1 rfl) (va_cons (ve_var 2 rfl) va_nil)) ⟨R, m, zs, rfl, by omega, fun row hr => by have := pre.row row hr; omega, pre.ok, hm, rfl⟩))
  | rank b =>
    obtain ⟨fp, hf, rfl⟩ := hz
    refine vss_cons (vs_ifF (vt_word "rank" hr (by show PyData.canLay0 _ = true; decide +kernel) (ve_var 0 rfl) rfl (by decide +kernel)) vss_nil) ?_
    exact vss_ret (vs_ifT (vt_word "rank" hr (by show PyData.canLay0 _ = true; decide +kernel) (ve_var 0 rfl) rfl (by decide +kernel)) (vss_one (vs_retO (vo_call C4 hr (va_cons (ve_ixT (d := optI b) (ve_var 0 rfl) ve_int rfl) (va_cons (ve_var 1 rfl) (va_cons (ve_var 2 rfl) (va_cons (ve_var 3 rfl) va_nil)))) ⟨R, b, now, t0, l, fp, rfl, he, hf, rfl⟩)))) rfl
theorem f_age {fd : FuncData} (F : Fun K "load_by_age" "load_by_age" (top 7) f fd) (C1 : Callable P w K mg base 2 "load_of_kind" ["most", "rows", "spots"] (spO K Rkind)) (C2 : Callable P w K mg base 3 "load_gathered" ["most", "age", "rows", "spots", "now"] (spO K Rgat)) (C3 : Callable P w K mg base 2 "load_met" ["rows", "spots"] (spO K Rmet)) (C4 : Callable P w K mg base 3 "load_by_rank" ["bound", "rows", "spots", "now"] (spO K Rrank)) :
    FnOk P w K mg base CX0 4 f fd ["rule", "rows", "spots", "now"] (spO K Rage) :=
  fn_O F sc_age (fun _ _ h => by obtain ⟨_, _, _, _, _, _, rfl, _⟩ := h; rfl) fun _ _ h => b_age C1 C2 C3 C4 h
/-! load_of -/
/-- what is told: the spots and the turn -/
def LoadR (ru : Rule) (R : List (List (Gd Str))) (p : Nat) (c now : Int) (zs : List (Nat × Nat)) (q : Nat × Int) : Prop :=
  (elders R = [] ∧ zs = [] ∧ q = (p, c)) ∨ ∃ t0 l, elders R = t0 :: l ∧
    ((∃ sh m, ru = .turns sh ∧ sh.length = R.length ∧ TurnM R sh p c m ∧ zs = [((turnAt R.length p c m).1, 0)] ∧ q = ((turnAt R.length p c m).1, (turnAt R.length p c m).2 + 1)) ∨ ageZ R t0 now ru zs ∧ q = (p, c))
def Rload (ds es : List PyData) (d : PyData) : Prop := ∃ (ru : Rule) (R : List (List (Gd Str))) (p : Nat) (c now : Int) (zs : List (Nat × Nat)) (q : Nat × Int), ds = [ruleD ru, rowsD R, turnD p c, .int now] ∧ Pre R ∧ p < R.length ∧ LoadR ru R p c now zs q ∧ es = zs.map spotD ∧ d = turnD q.1 q.2
abbrev Nload : List Str := ["rule", "rows", "turn", "now"]
theorem sc_load : FnScope Nload ["rule", "rows", "turn", "now"] (defScope (top 1)) := ⟨rfl, rfl, rfl, by decide +kernel, rfl, by decide +kernel, by decide +kernel⟩
theorem rows_lists (R : List (List (Gd Str))) : rowsD R = .list ((R.map fun row => row.map goodD).map PyData.list) := by
  unfold rowsD rowsL
  rw [List.map_map]
  rfl
theorem anyL_elders (R : List (List (Gd Str))) : anyL (R.map fun row => row.map goodD) = !(elders R).isEmpty := by
  have h := elders_length R
  have g : ∀ R : List (List (Gd Str)), anyL (R.map fun row => row.map goodD) = decide (0 < total R) := by
    intro R
    induction R with
    | nil => rfl
    | cons r R ih =>
      unfold anyL at ih ⊢
      rw [List.map_cons, List.any_cons, ih]
      unfold total
      rw [List.map_cons, List.sum_cons]
      cases r with
      | nil => simp
      | cons g r => simp; omega
  rw [g, ← h]
  cases elders R <;> simp
theorem ve_anyR {X : Cx} {δ : List Slot} {e : Expr} {R : List (List (Gd Str))} {p pos : Pos} (hc : X.calm = true) (h : VE X e δ (rowsD R)) (hm : X.mg "any" = none) (hg : Gl X "any" := by rfl)
    (he : starEach [e] X.env = (false, eval e X.env) :: starEach [] X.env := by rfl) (hpl : (backTo pos (starEach [] X.env)).any (·.1) = false := by rfl) : VE X (.Call (.Name "any" p) [e] [] pos) δ (.bool (!(elders R).isEmpty)) :=
  VE.to (ve_callB (call_anyL hc) cdAnyL (va_cons (VE.to h (rows_lists R)) va_nil he) hm rfl hg (by decide) (by decide) he hpl) (by rw [anyL_elders])
theorem b_load (m1 : mg "any" = none) (C1 : Callable P w K mg base 1 "spots_by_age" ["rows"] (spO K Rspots)) (C2 : Callable P w K mg base 1 "load_by_turns" ["shares", "rows", "turn"] (sp2 K Rturns)) (C3 : Callable P w K mg base 4 "load_by_age" ["rule", "rows", "spots", "now"] (spO K Rage)) {ds es : List PyData} {d : PyData} (h : Rload ds es d) :
    BodyD P w K mg base Nload "load_of" (top 1) f 4 ds (.r2 es d) := by
  obtain ⟨ru, R, p, c, now, zs, q, rfl, pre, hp, hl, rfl, rfl⟩ := h
  intro cdv A outer s H E hr
  have nd : Nload.Nodup := sc_load.nd
  have hr1 : Room 1 _ := hr.mono (by omega)
  have tot := pre.tot
  rcases hl with ⟨e0, rfl, rfl⟩ | ⟨t0, l, e0, hl⟩
  · exact vss_ret (vs_ifT (VT.to (vt_not (vt_tru (ve_anyR (R := R) rfl (ve_var 1 rfl) m1) rfl)) (by rw [e0]; rfl)) (vss_one (vs_ret2 (v2_tup (vo_lst (ds := []) va_nil) (ve_var 2 rfl))))) rfl
  · refine vss_cons (vs_ifF (VT.to (vt_not (vt_tru (ve_anyR (R := R) rfl (ve_var 1 rfl) m1) rfl)) (by rw [e0]; rfl)) vss_nil) ?_
    rcases hl with ⟨sh, m, rfl, h1, h2, rfl, rfl⟩ | ⟨hz, rfl⟩
    · exact vss_ret (vs_ifT (vt_word "turns" hr (by show PyData.canLay0 _ = true; decide +kernel) (ve_var 0 rfl) rfl (by decide +kernel)) (vss_one (vs_ret2 (v2_call C2 hr1 (va_cons (ve_ixT (ve_var 0 rfl) ve_int rfl) (va_cons (ve_var 1 rfl) (va_cons (ve_var 2 rfl) va_nil))) ⟨R, sh, p, c, m, rfl, hp, h1, h2, rfl, rfl⟩)))) rfl
    · refine vss_cons (vs_ifF (vt_word (wordOf ru) hr (by show PyData.canLay0 _ = true; decide +kernel) (ve_var 0 rfl) rfl ?_) vss_nil) ?_
      · cases ru with
        | turns sh => exact hz.elim
        | eldest => show decide (("eldest" : Str) = "turns") = false; decide +kernel
        | many _ => show decide (("many" : Str) = "turns") = false; decide +kernel
        | gather _ _ => show decide (("gather" : Str) = "turns") = false; decide +kernel
        | meet => show decide (("meet" : Str) = "turns") = false; decide +kernel
        | rank _ => show decide (("rank" : Str) = "turns") = false; decide +kernel
      · exact vss_one (vs_ret2 (v2_tup (vo_call C3 hr (va_cons (ve_var 0 rfl) (va_cons (ve_var 1 rfl) (va_cons (VO.ve (vo_call C1 hr1 (va_cons (ve_var 1 rfl) va_nil) ⟨R, rfl, pre.sb, rfl⟩)) (va_cons (ve_var 3 rfl) va_nil)))) ⟨ru, R, now, t0, l, zs, rfl, pre, e0, hz, rfl⟩) (ve_var 2 rfl)))
theorem f_load {fd : FuncData} (F : Fun K "load_of" "load_of" (top 1) f fd) (m1 : mg "any" = none) (C1 : Callable P w K mg base 1 "spots_by_age" ["rows"] (spO K Rspots)) (C2 : Callable P w K mg base 1 "load_by_turns" ["shares", "rows", "turn"] (sp2 K Rturns)) (C3 : Callable P w K mg base 4 "load_by_age" ["rule", "rows", "spots", "now"] (spO K Rage)) :
    FnOk P w K mg base CX0 5 f fd ["rule", "rows", "turn", "now"] (sp2 K Rload) :=
  fn_2 F sc_load (fun _ _ _ h => by obtain ⟨_, _, _, _, _, _, _, rfl, _⟩ := h; rfl) fun _ _ _ h => b_load m1 C1 C2 C3 h
end
end Mg

set_option Elab.async false
set_option linter.all false
set_option maxRecDepth 100000
set_option maxHeartbeats 4000000
namespace Mg
open L2 PySem PyProof.Rows
def intsD (ns : List Int) : PyData := .list (ns.map .int)
def mixN (c k : Int) : Int := ((c % 2147483629 + k * k * 7919 + 11) * 48271 % 2147483647) * ((c % 2147483629 + k * k * 7919 + 11) * 48271 % 2147483647) % 1999999973
section
variable {P : Program} {w : World} {K : PySem.W.Frag} {mg : Str → Option Value} {base : Heap} {f : Addr} {k : Nat}
/-! _law_cell_at -/
def Rcell (ds : List PyData) (d : PyData) : Prop := ∃ (ns : List Int) (k : Nat), ds = [intsD ns, .int k] ∧ d = .int (ns.getD k 0)
theorem sc_cell : FnScope ["_law_script", "_law_k"] ["_law_script", "_law_k"] (defScope (top 14)) := ⟨rfl, rfl, rfl, by decide +kernel, rfl, by decide +kernel, by decide +kernel⟩
theorem b_cell (m1 : mg "len" = none) {ds : List PyData} {d : PyData} (h : Rcell ds d) : BodyD P w K mg base ["_law_script", "_law_k"] "_law_cell_at" (top 14) f k ds (.rt d) := by
  obtain ⟨ns, n, rfl, rfl⟩ := h
  intro cdv A outer s H E hr
  by_cases hn : n < ns.length
  · refine vss_ret (vs_ifT (VT.to (vt_lt (ve_var 1 rfl) (ve_len (ve_var 0 rfl) m1)) (by simp only [List.length_map]; exact decide_eq_true (by omega))) (vss_one (vs_ret (ve_ix (ve_var 0 rfl) (ve_var 1 rfl) (atI_nat ?_))))) rfl
    rw [List.getElem?_map, List.getD_eq_getElem?_getD, List.getElem?_eq_getElem hn]; rfl
  · refine vss_cons (vs_ifF (VT.to (vt_lt (ve_var 1 rfl) (ve_len (ve_var 0 rfl) m1)) (by simp only [List.length_map]; exact decide_eq_false (by omega))) vss_nil) ?_
    have e : ns.getD n 0 = 0 := by rw [List.getD_eq_getElem?_getD, List.getElem?_eq_none (by omega)]; rfl
    rw [e]
    exact vss_one (vs_ret ve_int)
theorem f_cell {fd : FuncData} (F : Fun K "_law_cell_at" "_law_cell_at" (top 14) f fd) (m1 : mg "len" = none) : FnOk P w K mg base CX0 1 f fd ["_law_script", "_law_k"] (spD K Rcell) := fn_D F sc_cell (fun _ _ h => by obtain ⟨_, _, rfl, _⟩ := h; rfl) fun _ _ h => b_cell m1 h
/-! _law_mix -/
def Rmix (ds : List PyData) (d : PyData) : Prop := ∃ (c k : Int), ds = [.int c, .int k] ∧ 0 ≤ k ∧ k ≤ 1000 ∧ d = .int (mixN c k)
abbrev Nmix : List Str := ["_law_cell", "_law_k", "_law_m"]
theorem sc_mix : FnScope Nmix ["_law_cell", "_law_k"] (defScope (top 15)) := ⟨rfl, rfl, rfl, by decide +kernel, rfl, by decide +kernel, by decide +kernel⟩
theorem b_mix {ds : List PyData} {d : PyData} (h : Rmix ds d) : BodyD P w K mg base Nmix "_law_mix" (top 15) f k ds (.rt d) := by
  obtain ⟨c, n, rfl, h0, h1, rfl⟩ := h
  intro cdv A outer s H E hr
  have nd : Nmix.Nodup := sc_mix.nd
  have q1 : 0 ≤ (c % 2147483629 + n * n * 7919 + 11) * 48271 % 2147483647 := Int.emod_nonneg _ (by decide)
  have q2 : (c % 2147483629 + n * n * 7919 + 11) * 48271 % 2147483647 < 2147483647 := Int.emod_lt_of_pos _ (by decide)
  refine vss_cons (vs_set 2 (ve_mod (ve_mul (ve_add (ve_add (ve_mod (ve_var 0 rfl) ve_int (by decide)) (ve_mul (ve_mul (ve_var 1 rfl) (ve_var 1 rfl) (.inl ⟨by omega, by omega⟩)) ve_int (.inr ⟨by decide, by decide⟩))) ve_int) ve_int (.inr ⟨by decide, by decide⟩)) ve_int (by decide)) nd) ?_
  exact vss_one (vs_ret (ve_mod (ve_mul (ve_var 2 rfl) (ve_var 2 rfl) (.inl ⟨by omega, by omega⟩)) ve_int (by decide)))
theorem f_mix {fd : FuncData} (F : Fun K "_law_mix" "_law_mix" (top 15) f fd) : FnOk P w K mg base CX0 1 f fd ["_law_cell", "_law_k"] (spD K Rmix) := fn_D F sc_mix (fun _ _ h => by obtain ⟨_, _, rfl, _⟩ := h; rfl) fun _ _ h => b_mix h
/-! _law_latest -/
def lastsOf (R : List (List (Gd Str))) : List Int := 0 :: R.filterMap fun row => row.getLast?.map fun g => g.2.1
def Rlate (ds : List PyData) (d : PyData) : Prop := ∃ (R : List (List (Gd Str))) (M : Int), ds = [rowsD R] ∧ Pre R ∧ M ∈ lastsOf R ∧ (∀ z ∈ lastsOf R, z ≤ M) ∧ d = .int M
def sinceD : PyData → Option PyData
  | .tuple [_, a, _, _] => some a
  | _ => none
def Flate : PyData → Option PyData
  | .list ds => ds.getLast?.bind sinceD
  | _ => none
theorem Flate_row (row : List (Gd Str)) : Flate (rowD row) = row.getLast?.map fun g => .int g.2.1 := by
  show (row.map goodD).getLast?.bind sinceD = _
  rw [List.getLast?_map]
  cases row.getLast? <;> rfl
theorem Flate_rows (R : List (List (Gd Str))) : (rowsL R).filterMap Flate = (R.filterMap fun row => row.getLast?.map fun g => g.2.1).map .int := by
  induction R with
  | nil => rfl
  | cons row R ih =>
    unfold rowsL at *
    rw [List.map_cons]
    cases e : row.getLast? with
    | none => rw [List.filterMap_cons_none (by rw [Flate_row, e]; rfl), List.filterMap_cons_none (by rw [e]; rfl), ih]
    | some g => rw [List.filterMap_cons_some (b := .int g.2.1) (by rw [Flate_row, e]; rfl), List.filterMap_cons_some (b := g.2.1) (by rw [e]; rfl), ih]; rfl
theorem eqv_nil (ds : List PyData) : PyData.eqv (.list ds) (.list []) = ds.isEmpty := by
  cases ds with
  | nil => rw [PyData.eqv]; rfl
  | cons a l => rw [PyData.eqv]; rfl
theorem lay_row {row : List (Gd Str)} (h : ∀ g ∈ row, okG g) : Lay 20 (.list (row.map goodD)) := lay_lst (n := 19) fun d hd => by
  obtain ⟨g, hg, rfl⟩ := List.mem_map.mp hd
  exact lay_good (h g hg)
theorem atI_neg1 {α : Type} {xs : List α} {v : α} (h : xs.getLast? = some v) : atI xs (-1) = some v := by
  obtain ⟨ys, rfl⟩ := List.getLast?_eq_some_iff.mp h
  exact atI_last ys v
theorem sc_late : FnScope ["_law_rows_here"] ["_law_rows_here"] (defScope (top 17)) := ⟨rfl, rfl, rfl, by decide +kernel, rfl, by decide +kernel, by decide +kernel⟩
theorem b_late (m1 : mg "max" = none) {ds : List PyData} {d : PyData} (h : Rlate ds d) : BodyD P w K mg base ["_law_rows_here"] "_law_latest" (top 17) f k ds (.rt d) := by
  obtain ⟨R, M, rfl, pre, h1, h2, rfl⟩ := h
  intro cdv A outer s H E hr
  have nc : (["_law_row"] : List Str).Nodup := by decide +kernel
  have len := pre.len
  refine vss_one (vs_ret (ve_callB (call_maxL rfl) (cdMax (ns := lastsOf R) h1 h2) (va_cons (VO.ve (vo_cat (d1 := [.int 0]) (d2 := (R.filterMap fun row => row.getLast?.map fun g => g.2.1).map .int) (VO.ve (vo_lst (ds := [.int 0]) (va_cons ve_int va_nil))) (VO.ve (VO.to (vo_comp (own := ["_law_row"]) (cap := []) (N := ["_law_row"]) (cl := []) (tgt := .one 0) (F := Flate) (ds := rowsL R) rfl ⟨rfl, by decide +kernel, by decide +kernel, rfl, rfl, by simp⟩ (vi_list (ve_var 0 rfl)) (fun f s3 H3 => pg_name (i := 0) nc rfl (Or.inl rfl)) rfl
      (small (by simp only [rowsL, List.length_map]; omega)) (fun d hd => ?_)) (Flate_rows R))) (small ?_))) va_nil) m1 rfl))
  · obtain ⟨row, hrow, rfl⟩ := List.mem_map.mp hd
    refine ⟨_, rfl, fun f s3 H3 => ?_, fun r hr f s3 H3 => ?_⟩
    · refine vts_one (VT.to (vt_ne (k := k) hr (lay_row fun g hg => pre.ok row hrow g hg) (lay_lst (n := 19) (fun d hd => by cases hd)) (ve_var 0 rfl) (VO.ve (vo_lst (ds := []) va_nil))) ?_)
      rw [eqv_nil, Flate_row]
      cases e : row.getLast? with
      | none => rw [List.getLast?_eq_none_iff.mp e]; rfl
      | some g =>
        cases row with
        | nil => cases e
        | cons a l => rfl
    · rw [Flate_row] at hr
      cases e : row.getLast? with
      | none => rw [e] at hr; cases hr
      | some g =>
        rw [e] at hr
        cases hr
        exact ve_ixT (ve_ix (d := goodD g) (ve_var 0 rfl) (ve_neg ve_int) (atI_neg1 (by rw [List.getLast?_map, e]; rfl))) ve_int rfl
  · have := List.length_filterMap_le (fun row : List (Gd Str) => row.getLast?.map fun g => g.2.1) R
    simp only [List.length_map, List.length_cons, List.length_nil]
    omega
theorem f_late {fd : FuncData} (F : Fun K "_law_latest" "_law_latest" (top 17) f fd) (m1 : mg "max" = none) : FnOk P w K mg base CX0 1 f fd ["_law_rows_here"] (spD K Rlate) := fn_D F sc_late (fun _ _ h => by obtain ⟨_, _, rfl, _⟩ := h; rfl) fun _ _ h => b_late m1 h
theorem late_ex (R : List (List (Gd Str))) : ∃ M, M ∈ lastsOf R ∧ ∀ z ∈ lastsOf R, z ≤ M := by
  have go : ∀ (l : List Int) (a : Int), ∃ M, M ∈ a :: l ∧ ∀ z ∈ a :: l, z ≤ M := by
    intro l
    induction l with
    | nil => intro a; exact ⟨a, by simp, by simp⟩
    | cons b l ih =>
      intro a
      obtain ⟨M, h1, h2⟩ := ih b
      by_cases h : M ≤ a
      · refine ⟨a, by simp, fun z hz => ?_⟩
        rcases List.mem_cons.mp hz with rfl | hz
        · exact Int.le_refl _
        · exact Int.le_trans (h2 z hz) h
      · refine ⟨M, List.mem_cons_of_mem _ h1, fun z hz => ?_⟩
        rcases List.mem_cons.mp hz with rfl | hz
        · omega
        · exact h2 z hz
  exact go _ _
end
end Mg

set_option Elab.async false
set_option linter.all false
set_option maxRecDepth 100000
set_option maxHeartbeats 4000000
namespace Mg
open L2 PySem PyProof.Rows
/-! the rows that the law makes -/
def kindW (m : Int) : Str := if m / 100 % 3 = 0 then "a" else if m / 100 % 3 = 1 then "b" else "ab"
def parcelW (m : Int) : Str := if m / 1000 % 4 = 0 then "" else if m / 1000 % 4 = 1 then "p" else if m / 1000 % 4 = 2 then "q" else "pp"
def lastS (row : List (Gd Str)) : Int := (row.getLast?.map fun g => g.2.1).getD 0
def sinceW (m : Int) (row : List (Gd Str)) : Int := if (!(row.map goodD).isEmpty) = true then lastS row + m / 7 % 3 else m / 7 % 4
def newG (cells : List Int) (k : Nat) (row : List (Gd Str)) : Gd Str :=
  ((29 * (k : Int) + cells.getD 0 0 % 211) % 211, sinceW (mixN (cells.getD k 0) k) row, kindW (mixN (cells.getD k 0) k), parcelW (mixN (cells.getD k 0) k))
def spotJ (cells : List Int) (many k : Nat) : Nat := (mixN (cells.getD k 0) k % (many : Int)).toNat
def gridTo (cells : List Int) (many : Nat) : Nat → List (List (Gd Str))
  | 0 => List.replicate many []
  | k + 1 => (gridTo cells many k).set (spotJ cells many k) ((gridTo cells many k).getD (spotJ cells many k) [] ++ [newG cells k ((gridTo cells many k).getD (spotJ cells many k) [])])
def mkRows (cells : List Int) (many : Nat) : List (List (Gd Str)) := gridTo cells many (cells.take 24).length
theorem kind_at (m : Int) : atI [PyData.str "a", .str "b", .str "ab"] (m / 100 % 3) = some (.str (kindW m)) := by
  have h : m / 100 % 3 = 0 ∨ m / 100 % 3 = 1 ∨ m / 100 % 3 = 2 := by omega
  unfold kindW
  rcases h with h | h | h <;> rw [h] <;> rfl
theorem parcel_at (m : Int) : atI [PyData.str "", .str "p", .str "q", .str "pp"] (m / 1000 % 4) = some (.str (parcelW m)) := by
  have h : m / 1000 % 4 = 0 ∨ m / 1000 % 4 = 1 ∨ m / 1000 % 4 = 2 ∨ m / 1000 % 4 = 3 := by omega
  unfold parcelW
  rcases h with h | h | h | h <;> rw [h] <;> rfl
theorem ok_kindW (m : Int) : okS (kindW m) := by
  unfold kindW
  split
  · show PyData.canLay0 _ = true; decide +kernel
  · split <;> (show PyData.canLay0 _ = true; decide +kernel)
theorem ok_parcelW (m : Int) : okS (parcelW m) := by
  unfold parcelW
  split
  · show PyData.canLay0 _ = true; decide +kernel
  · split
    · show PyData.canLay0 _ = true; decide +kernel
    · split <;> (show PyData.canLay0 _ = true; decide +kernel)
theorem spotJ_eq {cells : List Int} {many : Nat} (h : 1 ≤ many) (k : Nat) : mixN (cells.getD k 0) k % (many : Int) = ((spotJ cells many k : Nat) : Int) := by
  unfold spotJ
  exact (Int.toNat_of_nonneg (Int.emod_nonneg _ (by omega))).symm
theorem spotJ_lt {cells : List Int} {many : Nat} (h : 1 ≤ many) (k : Nat) : spotJ cells many k < many := by
  have e := spotJ_eq (cells := cells) h k
  have := Int.emod_lt_of_pos (mixN (cells.getD k 0) k) (b := (many : Int)) (by omega)
  omega
theorem gridTo_length (cells : List Int) (many : Nat) : ∀ k, (gridTo cells many k).length = many
  | 0 => by simp [gridTo]
  | k + 1 => by
    show (List.set _ _ _).length = many
    rw [List.length_set, gridTo_length cells many k]
theorem total_set : ∀ (G : List (List (Gd Str))) (j : Nat) (x : Gd Str), j < G.length → total (G.set j (G.getD j [] ++ [x])) = total G + 1
  | [], j, x, h => by simp at h
  | r :: G, 0, x, h => by
    unfold total
    simp [List.getD_cons_zero]
    omega
  | r :: G, j + 1, x, h => by
    have := total_set G j x (by simpa using h)
    unfold total at *
    simp only [List.set_cons_succ, List.map_cons, List.sum_cons, List.getD_cons_succ]
    omega
theorem gridTo_total {cells : List Int} {many : Nat} (h : 1 ≤ many) : ∀ k, total (gridTo cells many k) = k
  | 0 => by
    show total (List.replicate many []) = 0
    unfold total
    rw [List.map_replicate]
    simp
  | k + 1 => by
    show total (List.set _ _ _) = k + 1
    rw [total_set _ _ _ (by rw [gridTo_length]; exact spotJ_lt h k), gridTo_total h k]
theorem gridTo_ok {cells : List Int} {many : Nat} : ∀ k, okR (gridTo cells many k)
  | 0 => fun row hr g hg => by
    obtain ⟨_, rfl⟩ := List.mem_replicate.mp hr
    cases hg
  | k + 1 => fun row hr g hg => by
    have ih := gridTo_ok (cells := cells) (many := many) k
    rcases List.mem_or_eq_of_mem_set (show row ∈ List.set _ _ _ from hr) with h | h
    · exact ih row h g hg
    · subst h
      rcases List.mem_append.mp hg with h | h
      · rw [List.getD_eq_getElem?_getD] at h
        cases e : (gridTo cells many k)[spotJ cells many k]? with
        | none => rw [e] at h; cases h
        | some r => rw [e] at h; exact ih r (List.mem_of_getElem? e) g h
      · rw [List.mem_singleton] at h
        subst h
        exact ⟨ok_kindW _, ok_parcelW _⟩
theorem pre_rows {cells : List Int} {many : Nat} (h1 : 1 ≤ many) (h6 : many ≤ 6) : Pre (mkRows cells many) := by
  refine Pre.sm (by unfold mkRows; rw [gridTo_length]; exact h6) ?_ (gridTo_ok _)
  unfold mkRows
  rw [gridTo_total h1, List.length_take]
  omega
theorem mkRows_length (cells : List Int) (many : Nat) : (mkRows cells many).length = many := gridTo_length _ _ _
section
variable {P : Program} {w : World} {K : PySem.W.Frag} {mg : Str → Option Value} {base : Heap} {f : Addr} {k : Nat}
/-! _law_rows -/
abbrev Nrows : List Str := ["_law_cells", "_law_many", "_law_k", "_law_rows_here", "_law_cell", "_law_m", "_law_row", "_law_since", "_law_kind"]
theorem sc_rows : FnScope Nrows ["_law_cells", "_law_many"] (defScope (top 16)) := ⟨rfl, rfl, rfl, by decide +kernel, rfl, by decide +kernel, by decide +kernel⟩
def Rrows (ds : List PyData) (d : PyData) : Prop := ∃ (cells : List Int) (many : Nat), ds = [intsD cells, .int many] ∧ 1 ≤ many ∧ many ≤ 6 ∧ d = rowsD (mkRows cells many)
theorem b_rows (n : Nm mg) (C1 : Callable P w K mg base 1 "_law_mix" ["_law_cell", "_law_k"] (spD K Rmix)) (C2 : Callable P w K mg base 1 "_law_cell_at" ["_law_script", "_law_k"] (spD K Rcell)) {ds : List PyData} {d : PyData} (h : Rrows ds d) :
    BodyD P w K mg base Nrows "_law_rows" (top 16) f (k + 1) ds (.rt d) := by
  obtain ⟨cells, many, rfl, h1, h6, rfl⟩ := h
  intro cdv A outer s H E hr
  have nd : Nrows.Nodup := sc_rows.nd
  have nc : (["_law_k"] : List Str).Nodup := by decide +kernel
  have hr1 : Room 1 _ := hr.mono (by omega)
  intro B0 B σ H0 Hh D fr ok
  refine css_cons (g_start 3 (ds := rangeD many) (own := ["_law_k"]) (cap := []) (N := ["_law_k"]) (cl := []) (tgt := .one 0) fr rfl rfl ⟨rfl, by decide +kernel, by decide +kernel, rfl, rfl, by simp⟩ (vi_range (n := (many : Int)) (ve_var 1 rfl) n.rng (by omega) (by omega)) (fun f s3 H3 => pg_name (i := 0) nc rfl (Or.inl rfl)) rfl
    (small (by rw [rangeD_length]; omega)) (fun d hd => ⟨_, rfl⟩) nd (fun σ1 a ps H1 H1' G => ?_) (fun a => rfl))
  have hcs : L2.cutD (cells.map PyData.int) none (some 24) = (cells.take 24).map PyData.int := by
    rw [cut_map]
    exact congrArg (List.map PyData.int) (cut_take cells 24)
  refine css_cons (g_for (tgt := .tup [2, 4]) (ds := enumD ((cells.take 24).map .int)) G PassesOwn.never rfl (vi_enum (ds := (cells.take 24).map .int) (VO.ve (VO.to (vo_slice (ds := cells.map .int) (ve_var 0 rfl) .no (.yes ve_int)) hcs)) n.enu)
    (pg_tup rfl (pgs_cons (pg_name (i := 2) nd rfl (Or.inl rfl)) (pgs_cons (pg_name (i := 4) nd rfl (Or.inl rfl)) pgs_nil))) (fun i => (gridTo cells many i).map fun r => r.map goodD) ?_ (fun i d hd => ?_) (fun σ2 Ha Hb G2 => ?_))
  · show (List.replicate many []).map _ = _
    rw [List.map_replicate, rangeD_length]
    rfl
  · obtain ⟨x, hx, rfl⟩ := enumD_get hd
    obtain ⟨hi24, rfl⟩ : i < 24 ∧ x = .int (cells.getD i 0) := by
      rw [List.getElem?_map, List.getElem?_take] at hx
      by_cases hi : i < 24
      · rw [if_pos hi] at hx
        refine ⟨hi, ?_⟩
        rw [List.getD_eq_getElem?_getD]
        cases e : cells[i]? with
        | none => rw [e] at hx; cases hx
        | some c => rw [e] at hx; cases hx; rfl
      · rw [if_neg hi] at hx; cases hx
    refine ⟨[.val (intsD cells), .val (.int many), .val (.int i), .ref a, .val (.int (cells.getD i 0)), .un, .un, .un, .un], rfl, rfl, fun D C0 σ' H0' H' G q => ?_⟩
    have hR := gridTo_length cells many i
    have hj := spotJ_lt (cells := cells) h1 i
    have hpl : ps.length = many := G.len.trans (by simp [hR])
    obtain ⟨p, hp⟩ : ∃ p, ps[spotJ cells many i]? = some p := ⟨ps[spotJ cells many i]'(by omega), List.getElem?_eq_getElem _⟩
    have hrow : (gridTo cells many i)[spotJ cells many i]? = some ((gridTo cells many i).getD (spotJ cells many i) []) := by
      rw [List.getD_eq_getElem?_getD, List.getElem?_eq_getElem (by omega)]; rfl
    have hgj : ((gridTo cells many i).map fun r => r.map goodD)[spotJ cells many i]? = some (((gridTo cells many i).getD (spotJ cells many i) []).map goodD) := by
      rw [List.getElem?_map, hrow]; rfl
    have egs : ((gridTo cells many (i + 1)).map fun r => r.map goodD) = ((gridTo cells many i).map fun r => r.map goodD).set (spotJ cells many i) (((gridTo cells many i).getD (spotJ cells many i) []).map goodD ++ [goodD (newG cells i ((gridTo cells many i).getD (spotJ cells many i) []))]) := by
      show (List.set _ _ _).map _ = _
      rw [List.map_set, List.map_append]
      rfl
    have hmem : (gridTo cells many i).getD (spotJ cells many i) [] ∈ gridTo cells many i := List.mem_of_getElem? hrow
    have hlen : ((gridTo cells many i).getD (spotJ cells many i) []).length ≤ 78 := by
      have pr : Pre (gridTo cells many i) := Pre.sm (by omega) (by rw [gridTo_total h1]; omega) (gridTo_ok _)
      exact pr.row _ hmem
    have hok : ∀ g ∈ (gridTo cells many i).getD (spotJ cells many i) [], okG g := fun g hg => gridTo_ok i _ hmem g hg
    generalize (gridTo cells many i).getD (spotJ cells many i) [] = row at *
    refine css_cons (g_step G (vs_set 5 (d := .int (mixN (cells.getD i 0) i)) (ve_call C1 hr1 (va_cons (ve_var 4 rfl) (va_cons (ve_var 2 rfl) va_nil)) ⟨cells.getD i 0, i, rfl, by omega, by omega, rfl⟩) nd) rfl fun σ1 Ha Hb G1 => ?_)
    refine css_cons (g_pick G1 3 6 (j := spotJ cells many i) (p := p) rfl (VE.to (ve_mod (ve_var 5 rfl) (ve_var 1 rfl) (by omega)) (by rw [spotJ_eq h1])) hp rfl (fun σ2 Hc Hd G2 => ?_) nd)
    refine css_cons (g_step G2 (vs_set 7 (ve_mod (ve_div (ve_var 5 rfl) ve_int ⟨by decide, by decide⟩) ve_int (by decide)) nd) rfl fun σ3 He Hf G3 => ?_)
    refine css_cons (g_lookIf G3 6 7 (p2 := ⟨0, 0, 0, 0⟩) (j := spotJ cells many i) (p := p) (ds := row.map goodD) (k := !(row.map goodD).isEmpty) (m1 := mixN (cells.getD i 0) i / 7 % 4) (m2 := lastS row + mixN (cells.getD i 0) i / 7 % 3) rfl hp hgj
      (VT.to (vt_ne hr1 (lay_row hok) lay_nil (ve_var 6 rfl) (VO.ve (vo_lst (ds := []) va_nil))) (by rw [eqv_nil])) (fun hk => ?_) rfl (fun σ4 Hg Hh G4 => ?_) (fun m => rfl) nd)
    · cases e : row.getLast? with
      | none => rw [List.getLast?_eq_none_iff.mp e] at hk; cases hk
      | some g =>
        have el : lastS row = g.2.1 := by unfold lastS; rw [e]; rfl
        rw [el]
        exact ve_add (ve_ixT (ve_ix (d := goodD g) (ve_var 6 rfl) (ve_neg ve_int) (atI_neg1 (by rw [List.getLast?_map, e]; rfl))) ve_int rfl) (ve_mod (ve_div (ve_var 5 rfl) ve_int ⟨by decide, by decide⟩) ve_int (by decide))
    refine css_cons (g_step G4 (vs_set 8 (ve_ix (VO.ve (vo_lst (va_cons ve_str (va_cons ve_str (va_cons ve_str va_nil))))) (ve_mod (ve_div (ve_var 5 rfl) ve_int ⟨by decide, by decide⟩) ve_int (by decide)) (kind_at _)) nd) rfl fun σ5 Hi Hj G5 => ?_)
    refine css_one (g_append G5 6 (j := spotJ cells many i) (p := p) (ds := row.map goodD) (d := goodD (newG cells i row)) rfl hp hgj
      (ve_tup (va_cons (ve_mod (ve_add (ve_mul ve_int (ve_var 2 rfl) (.inl ⟨by decide, by decide⟩)) (ve_mod (ve_call C2 hr1 (va_cons (ve_var 0 rfl) (va_cons ve_int va_nil)) ⟨cells, 0, rfl, rfl⟩) ve_int (by decide))) ve_int (by decide))
        (va_cons (ve_var 7 rfl) (va_cons (ve_var 8 rfl) (va_cons (ve_ix (VO.ve (vo_lst (va_cons ve_str (va_cons ve_str (va_cons ve_str (va_cons ve_str va_nil)))))) (ve_mod (ve_div (ve_var 5 rfl) ve_int ⟨by decide, by decide⟩) ve_int (by decide)) (parcel_at _)) va_nil)))))
      (small' (by rw [List.length_map]; omega)) (fun σ6 Hk Hl G6 => ?_))
    rw [← egs] at G6
    exact q _ _ _ (G6.forget ⟨.inr rfl, .inr rfl, .inl rfl, .inr rfl, .inl rfl, .inl rfl, .inl rfl, .inl rfl, .inl rfl, trivial⟩ rfl)
  · refine css_one (g_ret G2 3 rfl fun v Hc Hd g r => ok v Hc Hd g ?_)
    have e : ((gridTo cells many (enumD ((cells.take 24).map PyData.int)).length).map fun r => r.map goodD).map PyData.list = rowsL (mkRows cells many) := by
      rw [enumD_length, List.length_map, List.map_map]
      rfl
    rw [e] at r
    exact r
theorem f_rows {fd : FuncData} (F : Fun K "_law_rows" "_law_rows" (top 16) f fd) (n : Nm mg) (C1 : Callable P w K mg base 1 "_law_mix" ["_law_cell", "_law_k"] (spD K Rmix)) (C2 : Callable P w K mg base 1 "_law_cell_at" ["_law_script", "_law_k"] (spD K Rcell)) : FnOk P w K mg base CX0 2 f fd ["_law_cells", "_law_many"] (spD K Rrows) :=
  fn_D (k := 1) F sc_rows (fun _ _ h => by obtain ⟨_, _, rfl, _⟩ := h; rfl) fun _ _ h => b_rows (k := 0) n C1 C2 h
end
end Mg

set_option Elab.async false
set_option linter.all false
set_option maxRecDepth 100000
set_option maxHeartbeats 4000000
namespace Mg
open L2 PySem PyProof.Rows
def RuleOk (ru : Rule) (n : Nat) : Prop := match ru with
  | .turns sh => sh.length = n ∧ ∀ i, i < n → 1 ≤ sh.getD i 0
  | _ => True
theorem meet_ex (R : List (List (Gd Str))) : ∃ m zs, MeetM R m zs ∧ zs.length ≤ R.length := by
  cases e : (elders R).findIdx? (meets R) with
  | none =>
    refine ⟨(elders R).length, [], ⟨Nat.le_refl _, fun k t _ ht => List.findIdx?_eq_none_iff.mp e t (List.mem_of_getElem? ht), .inl ⟨rfl, rfl⟩⟩, Nat.zero_le _⟩
  | some m =>
    rw [List.findIdx?_eq_some_iff_getElem] at e
    obtain ⟨h1, h2, h3⟩ := e
    refine ⟨m, fop R (parcelOf R (elders R)[m]), ⟨by omega, fun k t hk ht => ?_, .inr ⟨_, List.getElem?_eq_getElem h1, h2, rfl⟩⟩, ?_⟩
    · obtain ⟨z1, z2⟩ := List.getElem?_eq_some_iff.mp ht
      have := h3 k hk
      rw [z2] at this
      simpa using this
    · unfold fop
      exact Nat.le_trans (List.length_filterMap_le _ _) (by simp)
def Flist : PyData → Option PyData
  | .list ds => some (.list ds)
  | _ => none
theorem Flist_rows (R : List (List (Gd Str))) : (rowsL R).filterMap Flist = rowsL R := by
  rw [filterMap_some (g := fun d => d) (fun d hd => by obtain ⟨row, _, rfl⟩ := List.mem_map.mp hd; rfl), List.map_id']

/-- the greatest load -/
def gOf : Rule → Nat → Int
  | .many m, _ => m
  | .gather m _, _ => m
  | .meet, n => n
  | _, _ => 1
def RuleG (ru : Rule) : Prop := match ru with
  | .many m => 1 ≤ m
  | .gather m _ => 1 ≤ m
  | _ => True
theorem cutN_len {α : Type} (l : List α) {m : Int} (h : 0 ≤ m) : cutN l m = l.take m.toNat := by
  obtain ⟨n, rfl⟩ : ∃ n : Nat, m = (n : Int) := ⟨m.toNat, by omega⟩
  unfold cutN
  rw [cut_take]
  rfl
theorem load_le {ru : Rule} {R : List (List (Gd Str))} {p : Nat} (c now : Int) (pre : Pre R) (hp : p < R.length) (hru : RuleOk ru R.length) (hg : RuleG ru) : ∃ zs q, LoadR ru R p c now zs q ∧ zs.length ≤ 78 ∧ (zs.length : Int) ≤ gOf ru R.length := by
  have hel : (elders R).length ≤ 78 := by rw [elders_length]; exact pre.tot
  cases e : elders R with
  | nil =>
    refine ⟨[], (p, c), .inl ⟨e, rfl, rfl⟩, Nat.zero_le _, ?_⟩
    show (0 : Int) ≤ _
    cases ru <;> simp only [gOf] <;> simp only [RuleG] at hg <;> omega
  | cons t0 l =>
    cases ru with
    | turns sh =>
      obtain ⟨m, h1, h2, h3⟩ := turn_found (S := Str) (R := R) (shares := sh) (p := p) (c := c) hp hru.2 (by rw [e]; intro z; cases z)
      exact ⟨_, _, .inr ⟨t0, l, e, .inl ⟨sh, m, rfl, hru.1, ⟨h1, h2, h3⟩, rfl, rfl⟩⟩, by show 1 ≤ 78; decide, by show (1 : Int) ≤ 1; decide⟩
    | eldest => exact ⟨[spotT t0], (p, c), .inr ⟨t0, l, e, .inr ⟨rfl, rfl⟩⟩, by show 1 ≤ 78; decide, by show (1 : Int) ≤ 1; decide⟩
    | many most =>
      have hm : 1 ≤ most := hg
      refine ⟨_, (p, c), .inr ⟨t0, l, e, .inr ⟨rfl, rfl⟩⟩, ?_, ?_⟩
      · rw [List.length_map]
        unfold manyL cutN
        exact Nat.le_trans (cut_length _ _ _) (Nat.le_trans (List.length_filter_le _ _) hel)
      · rw [List.length_map]
        unfold manyL
        rw [cutN_len _ (by omega), List.length_take]
        show ((min most.toNat _ : Nat) : Int) ≤ most
        omega
    | gather most age =>
      have hm : 1 ≤ most := hg
      refine ⟨_, (p, c), .inr ⟨t0, l, e, .inr ⟨rfl, rfl⟩⟩, ?_, ?_⟩
      · rw [List.length_map]
        unfold gatL cutN
        split
        · exact Nat.zero_le _
        · exact Nat.le_trans (cut_length _ _ _) hel
      · rw [List.length_map]
        unfold gatL
        split
        · show (0 : Int) ≤ most; omega
        · rw [cutN_len _ (by omega), List.length_take]
          show ((min most.toNat _ : Nat) : Int) ≤ most
          omega
    | meet =>
      obtain ⟨m, zs, hm, hz⟩ := meet_ex R
      exact ⟨zs, (p, c), .inr ⟨t0, l, e, .inr ⟨⟨m, hm⟩, rfl⟩⟩, by have := pre.len; omega, by show (zs.length : Int) ≤ (R.length : Nat); omega⟩
    | rank b =>
      obtain ⟨fp, hf⟩ := firstPl_ex (R := R) (t := t0) (by rw [e]; exact List.mem_cons_self)
      exact ⟨_, (p, c), .inr ⟨t0, l, e, .inr ⟨⟨fp, hf, rfl⟩, rfl⟩⟩, by show 1 ≤ 78; decide, by show (1 : Int) ≤ 1; decide⟩
/-! rows in which more goods wait than a load -/
def fillRow (p : Nat) : List (Gd Str) := (List.range 13).map fun (q : Nat) => ((20 * (p : Int) + (q : Int), (q : Int), ("a" : Str), ("p" : Str)) : Gd Str)
def fillR (n : Nat) : List (List (Gd Str)) := (List.range n).map fillRow
theorem fillR_length (n : Nat) : (fillR n).length = n := by simp [fillR]
theorem fillR_mem {n : Nat} {row : List (Gd Str)} (h : row ∈ fillR n) : row.length = 13 ∧ ∀ g ∈ row, g.2.2.1 = ("a" : Str) ∧ g.2.2.2 = ("p" : Str) := by
  obtain ⟨p, _, rfl⟩ := List.mem_map.mp h
  refine ⟨by simp [fillRow], fun g hg => ?_⟩
  obtain ⟨q, _, rfl⟩ := List.mem_map.mp hg
  exact ⟨rfl, rfl⟩
theorem fillR_ok (n : Nat) : okR (fillR n) := fun row hr g hg => by
  obtain ⟨h1, h2⟩ := (fillR_mem hr).2 g hg
  unfold okG
  rw [h1, h2]
  exact ⟨by show PyData.canLay0 _ = true; decide +kernel, by show PyData.canLay0 _ = true; decide +kernel⟩
theorem fillR_pre {n : Nat} (h1 : 1 ≤ n) (h6 : n ≤ 6) : Pre (fillR n) := by
  have h : n = 1 ∨ n = 2 ∨ n = 3 ∨ n = 4 ∨ n = 5 ∨ n = 6 := by omega
  rcases h with rfl | rfl | rfl | rfl | rfl | rfl
  · exact ⟨by decide +kernel, by decide +kernel, .inl (by decide +kernel), fillR_ok _⟩
  · exact ⟨by decide +kernel, by decide +kernel, .inl (by decide +kernel), fillR_ok _⟩
  · exact ⟨by decide +kernel, by decide +kernel, .inl (by decide +kernel), fillR_ok _⟩
  · exact ⟨by decide +kernel, by decide +kernel, .inl (by decide +kernel), fillR_ok _⟩
  · exact ⟨by decide +kernel, by decide +kernel, .inr (.inl (by decide +kernel)), fillR_ok _⟩
  · exact ⟨by decide +kernel, by decide +kernel, .inr (.inr (by decide +kernel)), fillR_ok _⟩
theorem fillR_total {n : Nat} : total (fillR n) = 13 * n := by
  have go : ∀ l : List Nat, ((l.map fillRow).map List.length).sum = 13 * l.length := by
    intro l
    induction l with
    | nil => rfl
    | cons a l ih =>
      rw [List.map_cons, List.map_cons, List.sum_cons, ih]
      simp [fillRow]
      omega
  unfold total fillR
  rw [go, List.length_range]
theorem fill_good {n : Nat} {t : Tri} (h : t ∈ elders (fillR n)) : ∃ g, goodAt (fillR n) (spotT t) = some g ∧ g.2.2.1 = ("a" : Str) ∧ g.2.2.2 = ("p" : Str) := by
  obtain ⟨row, g, h1, h2, h3, h4⟩ := goodAt_some h
  obtain ⟨z1, z2⟩ := (fillR_mem (List.mem_of_getElem? h1)).2 g (List.mem_of_getElem? h2)
  exact ⟨g, h4, z1, z2⟩
theorem load_fill {ru : Rule} {n p : Nat} (c now : Int) (h1 : 1 ≤ n) (h6 : n ≤ 6) (hp : p < n) (hru : RuleOk ru n) (hg : RuleG ru) (hd : gOf ru n ≤ 12) : ∃ zs q, LoadR ru (fillR n) p c now zs q ∧ zs.length ≤ 78 ∧ (zs.length : Int) = gOf ru n := by
  have hl := fillR_length n
  have hel : (elders (fillR n)).length = 13 * n := by rw [elders_length, fillR_total]
  cases e : elders (fillR n) with
  | nil => rw [e] at hel; simp at hel; omega
  | cons t0 l =>
    have ht0 : t0 ∈ elders (fillR n) := by rw [e]; exact List.mem_cons_self
    cases ru with
    | turns sh =>
      obtain ⟨m, h1, h2, h3⟩ := turn_found (S := Str) (R := fillR n) (shares := sh) (p := p) (c := c) (by omega) (by rw [hl]; exact hru.2) (by rw [e]; intro z; cases z)
      exact ⟨_, _, .inr ⟨t0, l, e, .inl ⟨sh, m, rfl, by rw [hl]; exact hru.1, ⟨h1, h2, h3⟩, rfl, rfl⟩⟩, by show 1 ≤ 78; decide, rfl⟩
    | eldest => exact ⟨[spotT t0], (p, c), .inr ⟨t0, l, e, .inr ⟨rfl, rfl⟩⟩, by show 1 ≤ 78; decide, rfl⟩
    | many most =>
      have hm : 1 ≤ most := hg
      have hd : most ≤ 12 := hd
      have hk : ∀ t ∈ elders (fillR n), kindOf (fillR n) (spotT t) = ("a" : Str) := fun t ht => by
        obtain ⟨g, z1, z2, _⟩ := fill_good ht
        unfold kindOf
        rw [z1]
        exact z2
      have ef : (elders (fillR n)).filter (kindIs (fillR n) (kindOf (fillR n) (spotT t0))) = elders (fillR n) := by
        rw [List.filter_eq_self]
        intro t ht
        unfold kindIs
        rw [hk t ht, hk t0 ht0]
        exact decide_eq_true rfl
      have el : ((manyL (fillR n) t0 most).map spotT).length = most.toNat := by
        rw [List.length_map]
        unfold manyL
        rw [ef, cutN_len _ (by omega), List.length_take, hel]
        omega
      exact ⟨_, (p, c), .inr ⟨t0, l, e, .inr ⟨rfl, rfl⟩⟩, by rw [el]; omega, by rw [el]; show (most.toNat : Int) = most; omega⟩
    | gather most age =>
      have hm : 1 ≤ most := hg
      have hd : most ≤ 12 := hd
      have ee : early (fillR n) t0 most age now = false := by
        unfold early
        rw [hel]
        rw [decide_eq_false (by omega)]
        rfl
      have el : ((gatL (fillR n) t0 most age now).map spotT).length = most.toNat := by
        rw [List.length_map]
        unfold gatL
        rw [if_neg (by rw [ee]; decide), cutN_len _ (by omega), List.length_take, hel]
        omega
      exact ⟨_, (p, c), .inr ⟨t0, l, e, .inr ⟨rfl, rfl⟩⟩, by rw [el]; omega, by rw [el]; show (most.toNat : Int) = most; omega⟩
    | meet =>
      have hpc : parcelOf (fillR n) t0 = ("p" : Str) := by
        obtain ⟨g, z1, _, z2⟩ := fill_good ht0
        unfold parcelOf
        rw [z1]
        exact z2
      have hw : whole (fillR n) ("p" : Str) = true := by
        unfold whole
        rw [List.all_eq_true]
        intro row hr
        obtain ⟨z1, z2⟩ := fillR_mem hr
        unfold firstOf
        cases row with
        | nil => cases z1
        | cons g row =>
          rw [List.findIdx?_cons, if_pos (decide_eq_true (z2 g List.mem_cons_self).2)]
          rfl
      have hme : meets (fillR n) t0 = true := by
        unfold meets
        rw [hpc, hw]
        decide +kernel
      have hf : (fop (fillR n) ("p" : Str)).length = n := by
        have := (fop_whole (fillR n) ("p" : Str)).1
        rw [hw] at this
        rw [of_decide_eq_true this, hl]
      refine ⟨fop (fillR n) ("p" : Str), (p, c), .inr ⟨t0, l, e, .inr ⟨⟨0, by omega, fun k t hk => absurd hk (by omega), .inr ⟨t0, by rw [e]; rfl, hme, by rw [hpc]⟩⟩, rfl⟩⟩, by omega, ?_⟩
      show ((fop (fillR n) ("p" : Str)).length : Int) = (n : Int)
      rw [hf]
    | rank b =>
      obtain ⟨fp, hf⟩ := firstPl_ex (R := fillR n) (t := t0) ht0
      exact ⟨_, (p, c), .inr ⟨t0, l, e, .inr ⟨⟨fp, hf, rfl⟩, rfl⟩⟩, by show 1 ≤ 78; decide, rfl⟩
end Mg

set_option Elab.async false
set_option linter.all false
set_option maxRecDepth 100000
set_option maxHeartbeats 4000000
namespace Mg
open L2 PySem PyProof.Rows
section
variable {P : Program} {w : World} {K : PySem.W.Frag} {mg : Str → Option Value} {base : Heap} {f : Addr} {k : Nat}
/-! greatest_load -/
abbrev Ngl : List Str := ["rule", "many"]
theorem sc_gl : FnScope Ngl ["rule", "many"] (defScope (top 2)) := ⟨rfl, rfl, rfl, by decide +kernel, rfl, by decide +kernel, by decide +kernel⟩
def Rgl (ds : List PyData) (d : PyData) : Prop := ∃ (ru : Rule) (n : Nat), ds = [ruleD ru, .int n] ∧ d = .int (gOf ru n)
theorem ok_ma : okS "many" := by show PyData.canLay0 _ = true; decide +kernel
theorem ok_ga : okS "gather" := by show PyData.canLay0 _ = true; decide +kernel
theorem ok_me : okS "meet" := by show PyData.canLay0 _ = true; decide +kernel
theorem b_gl {ds : List PyData} {d : PyData} (h : Rgl ds d) : BodyD P w K mg base Ngl "greatest_load" (top 2) f k ds (.rt d) := by
  obtain ⟨ru, n, rfl, rfl⟩ := h
  intro cdv A outer s H E hr
  cases ru with
  | many m => exact vss_ret (vs_ifT (VT.to (vt_or (vt_word "many" hr ok_ma (ve_var 0 rfl) rfl (t := true) (by decide +kernel)) (fun e => by cases e) (k2 := true)) rfl) (vss_one (vs_ret (ve_ixT (ve_var 0 rfl) ve_int rfl)))) rfl
  | gather m a => exact vss_ret (vs_ifT (VT.to (vt_or (vt_word "gather" hr ok_ma (ve_var 0 rfl) rfl (t := false) (by decide +kernel)) (fun _ => vt_word "gather" hr ok_ga (ve_var 0 rfl) rfl (t := true) (by decide +kernel))) rfl) (vss_one (vs_ret (ve_ixT (ve_var 0 rfl) ve_int rfl)))) rfl
  | meet =>
    refine vss_cons (vs_ifF (VT.to (vt_or (vt_word "meet" hr ok_ma (ve_var 0 rfl) rfl (t := false) (by decide +kernel)) (fun _ => vt_word "meet" hr ok_ga (ve_var 0 rfl) rfl (t := false) (by decide +kernel))) rfl) vss_nil) ?_
    exact vss_ret (vs_ifT (vt_word "meet" hr ok_me (ve_var 0 rfl) rfl (by decide +kernel)) (vss_one (vs_ret (ve_var 1 rfl)))) rfl
  | turns sh =>
    refine vss_cons (vs_ifF (VT.to (vt_or (vt_word "turns" hr ok_ma (ve_var 0 rfl) rfl (t := false) (by decide +kernel)) (fun _ => vt_word "turns" hr ok_ga (ve_var 0 rfl) rfl (t := false) (by decide +kernel))) rfl) vss_nil) ?_
    exact vss_cons (vs_ifF (vt_word "turns" hr ok_me (ve_var 0 rfl) rfl (by decide +kernel)) vss_nil) (vss_one (vs_ret ve_int))
  | eldest =>
    refine vss_cons (vs_ifF (VT.to (vt_or (vt_word "eldest" hr ok_ma (ve_var 0 rfl) rfl (t := false) (by decide +kernel)) (fun _ => vt_word "eldest" hr ok_ga (ve_var 0 rfl) rfl (t := false) (by decide +kernel))) rfl) vss_nil) ?_
    exact vss_cons (vs_ifF (vt_word "eldest" hr ok_me (ve_var 0 rfl) rfl (by decide +kernel)) vss_nil) (vss_one (vs_ret ve_int))
  | rank b =>
    refine vss_cons (vs_ifF (VT.to (vt_or (vt_word "rank" hr ok_ma (ve_var 0 rfl) rfl (t := false) (by decide +kernel)) (fun _ => vt_word "rank" hr ok_ga (ve_var 0 rfl) rfl (t := false) (by decide +kernel))) rfl) vss_nil) ?_
    exact vss_cons (vs_ifF (vt_word "rank" hr ok_me (ve_var 0 rfl) rfl (by decide +kernel)) vss_nil) (vss_one (vs_ret ve_int))
theorem f_gl {fd : FuncData} (F : Fun K "greatest_load" "greatest_load" (top 2) f fd) : FnOk P w K mg base CX0 1 f fd ["rule", "many"] (spD K Rgl) :=
  fn_D F sc_gl (fun _ _ h => by obtain ⟨_, _, rfl, _⟩ := h; rfl) fun _ _ h => b_gl h
/-! _law_filled -/
abbrev Nfil : List Str := ["_law_many", "_law_most"]
theorem sc_fil : FnScope Nfil ["_law_many", "_law_most"] (defScope (top 18)) := ⟨rfl, rfl, rfl, by decide +kernel, rfl, by decide +kernel, by decide +kernel⟩
def Rfil (ds es : List PyData) : Prop := ∃ n : Nat, ds = [.int n, .int 13] ∧ n ≤ 6 ∧ es = rowsL (fillR n)
def Fg (p : Nat) : PyData → Option PyData
  | .int q => some (goodD ((20 * (p : Int) + q, q, ("a" : Str), ("p" : Str)) : Gd Str))
  | _ => none
theorem Fg_row (p : Nat) : (rangeD 13).filterMap (Fg p) = (fillRow p).map goodD := by
  unfold fillRow rangeD
  rw [filterMap_some (g := fun d => match d with | .int q => goodD ((20 * (p : Int) + q, q, ("a" : Str), ("p" : Str)) : Gd Str) | _ => .none) (fun d hd => by obtain ⟨i, _, rfl⟩ := List.mem_map.mp hd; rfl), List.map_map, List.map_map]
  rfl
def Fr : PyData → Option PyData
  | .int p => some (rowD (fillRow p.toNat))
  | _ => none
theorem Fr_rows (n : Nat) : (rangeD n).filterMap Fr = rowsL (fillR n) := by
  unfold rowsL fillR rangeD
  rw [filterMap_some (g := fun d => match d with | .int q => rowD (fillRow q.toNat) | _ => .none) (fun d hd => by obtain ⟨i, _, rfl⟩ := List.mem_map.mp hd; rfl), List.map_map, List.map_map]
  rfl
/-! _law_fits -/
abbrev Nfit : List Str := ["_law_rule", "_law_many", "_law_due", "_law_rows_here", "_law_turn", "_law_now", "_law_told"]
theorem sc_fit : FnScope Nfit ["_law_rule", "_law_many", "_law_due", "_law_rows_here", "_law_turn", "_law_now"] (defScope (top 19)) := ⟨rfl, rfl, rfl, by decide +kernel, rfl, by decide +kernel, by decide +kernel⟩
def Rfit (ds : List PyData) (d : PyData) : Prop := ∃ (ru : Rule) (R : List (List (Gd Str))) (n p : Nat) (now : Int), ds = [ruleD ru, .int n, .int (gOf ru n), rowsD R, turnD p 0, .int now] ∧ Pre R ∧ R.length = n ∧ 1 ≤ n ∧ n ≤ 6 ∧ p < n ∧ RuleOk ru n ∧ RuleG ru ∧ d = .bool true
structure FitC (P : Program) (w : World) (K : PySem.W.Frag) (mg : Str → Option Value) (base : Heap) : Prop where
  gl : Callable P w K mg base 1 "greatest_load" ["rule", "many"] (spD K Rgl)
  lo : Callable P w K mg base 5 "load_of" ["rule", "rows", "turn", "now"] (sp2 K Rload)
  fi : Callable P w K mg base 1 "_law_filled" ["_law_many", "_law_most"] (spO K Rfil)
theorem b_fit (n : Nm mg) (kt : Kt K) (C : FitC P w K mg base) {ds : List PyData} {d : PyData} (h : Rfit ds d) : BodyD P w K mg base Nfit "_law_fits" (top 19) f 5 ds (.rt d) := by
  obtain ⟨ru, R, m, p, now, rfl, pre, hR, h1, h6, hp, hru, hg, rfl⟩ := h
  intro cdv A outer s H E hr
  have nd : Nfit.Nodup := sc_fit.nd
  have nc : (["_law_row"] : List Str).Nodup := by decide +kernel
  have hr1 : Room 1 _ := hr.mono (by omega)
  have hlen := pre.len
  obtain ⟨zs, q, l1, l2, l3⟩ := load_le (ru := ru) (R := R) (p := p) 0 now pre (by omega) (by rw [hR]; exact hru) hg
  rw [hR] at l3
  refine vss_cons (vs_set 6 (d := .int (gOf ru m)) (ve_call C.gl hr1 (va_cons (ve_var 0 rfl) (va_cons (ve_var 1 rfl) va_nil)) ⟨ru, m, rfl, rfl⟩) nd) ?_
  refine vss_cons (vs_ifF (VT.to (vt_or3 (vt_not (vt_tru (ve_isi (tn := "int") (ve_var 6 rfl) rfl kt.ii rfl n.isi n.int rfl) rfl)) (fun _ => vt_tru (ve_isi (tn := "bool") (ve_var 6 rfl) rfl kt.ib rfl n.isi n.bool rfl) rfl) (fun _ _ => vt_ne hr (lay_int _ _) (lay_int _ _) (ve_var 6 rfl) (ve_var 2 rfl))) (by rw [eqv_int, decide_eq_true rfl]; rfl)) vss_nil) ?_
  refine vss_cons (vs_ifF (VT.to (vt_gt (ve_len (ds := zs.map spotD) (ve_ixT (V2.ve (v2_call C.lo hr (va_cons (ve_var 0 rfl) (va_cons (VO.ve (VO.to (vo_comp (own := ["_law_row"]) (cap := []) (N := ["_law_row"]) (cl := []) (tgt := .one 0) (F := Flist) (ds := rowsL R) rfl ⟨rfl, by decide +kernel, by decide +kernel, rfl, rfl, by simp⟩ (vi_list (ve_var 3 rfl)) (fun f s3 H3 => pg_name (i := 0) nc rfl (Or.inl rfl)) rfl
      (small (by simp only [rowsL, List.length_map]; omega)) (fun d hd => ?_)) (Flist_rows R))) (va_cons (ve_var 4 rfl) (va_cons (ve_var 5 rfl) va_nil)))) ⟨ru, R, p, 0, now, zs, q, rfl, pre, by omega, l1, rfl, rfl⟩)) ve_int rfl) n.len) (ve_var 2 rfl)) (decide_eq_false (by rw [List.length_map]; omega))) vss_nil) ?_
  · obtain ⟨row, _, rfl⟩ := List.mem_map.mp hd
    exact ⟨_, rfl, fun f s3 H3 => vts_nil, fun r hr' f s3 H3 => by cases hr'; exact VO.ve (vo_callTy call_list_of coList (va_cons (ve_var 0 rfl) va_nil) n.lst rfl)⟩
  by_cases hd : 12 < gOf ru m
  · refine vss_one (vs_ret (VE.to (ve_or (k2 := true) (ve_gt (ve_var 2 rfl) ve_int) (fun e => absurd e (by rw [decide_eq_true hd]; decide))) ?_))
    rw [decide_eq_true hd]; rfl
  · obtain ⟨ys, u, g1, g2, g3⟩ := load_fill (ru := ru) (n := m) (p := p) 0 999999 h1 h6 hp hru hg (by omega)
    refine vss_one (vs_ret (VE.to (ve_or (k2 := true) (ve_gt (ve_var 2 rfl) ve_int) (fun e => ve_one (VE.to (ve_eq hr (lay_int _ _) (lay_int _ _) (ve_len (ds := ys.map spotD) (ve_ixT (V2.ve (v2_call C.lo hr (va_cons (ve_var 0 rfl) (va_cons (VO.ve (vo_call C.fi hr1 (va_cons (ve_var 1 rfl) (va_cons ve_int va_nil)) ⟨m, rfl, h6, rfl⟩)) (va_cons (ve_var 4 rfl) (va_cons ve_int va_nil)))) ⟨ru, fillR m, p, 0, 999999, ys, u, rfl, fillR_pre h1 h6, by rw [fillR_length]; exact hp, g1, rfl, rfl⟩)) ve_int rfl) n.len) (ve_var 2 rfl)) (by rw [eqv_int, List.length_map, g3, decide_eq_true rfl])))) ?_))
    rw [Bool.or_true]
theorem f_fit {fd : FuncData} (F : Fun K "_law_fits" "_law_fits" (top 19) f fd) (n : Nm mg) (kt : Kt K) (C : FitC P w K mg base) : FnOk P w K mg base CX0 6 f fd ["_law_rule", "_law_many", "_law_due", "_law_rows_here", "_law_turn", "_law_now"] (spD K Rfit) :=
  fn_D F sc_fit (fun _ _ h => by obtain ⟨_, _, _, _, _, rfl, _⟩ := h; rfl) fun _ _ h => b_fit n kt C h
end
end Mg

set_option Elab.async false
set_option linter.all false
set_option maxRecDepth 100000
set_option maxHeartbeats 4000000
namespace Mg
open L2 PySem PyProof.Rows
def manyOf (ns : List Int) : Nat := (1 + mixN (ns.getD 0 0) 1 % 6).toNat
theorem manyOf_eq (ns : List Int) : 1 + mixN (ns.getD 0 0) 1 % 6 = ((manyOf ns : Nat) : Int) := by
  unfold manyOf
  have := Int.emod_nonneg (mixN (ns.getD 0 0) 1) (b := 6) (by decide)
  omega
theorem manyOf_lo (ns : List Int) : 1 ≤ manyOf ns := by
  have := manyOf_eq ns
  have := Int.emod_nonneg (mixN (ns.getD 0 0) 1) (b := 6) (by decide)
  omega
theorem manyOf_hi (ns : List Int) : manyOf ns ≤ 6 := by
  have := manyOf_eq ns
  have := Int.emod_lt_of_pos (mixN (ns.getD 0 0) 1) (b := 6) (by decide)
  omega

def greatOf (m : Int) : Int := if m / 12 % 2 = 0 then 1 + m % 12 else 1 + m % 999999
theorem great_at (m : Int) : atI [PyData.int (1 + m % 12), .int (1 + m % 999999)] (m / 12 % 2) = some (.int (greatOf m)) := by
  have h : m / 12 % 2 = 0 ∨ m / 12 % 2 = 1 := by omega
  unfold greatOf
  rcases h with h | h
  · rw [h, if_pos rfl]; rfl
  · rw [h, if_neg (by decide)]; rfl
theorem great_pos {m : Int} : 1 ≤ greatOf m := by unfold greatOf; split <;> omega
def shares9 (m : Int) (n : Nat) : List Int := (List.range n).map fun (i : Nat) => 1 + mixN m i % 9
def Fsh9 (m : Int) : PyData → Option PyData
  | .int i => some (.int (1 + mixN m i % 9))
  | _ => none
theorem Fsh9_range (m : Int) (n : Nat) : (rangeD n).filterMap (Fsh9 m) = (shares9 m n).map .int := by
  unfold shares9 rangeD
  rw [filterMap_some (g := fun d => match d with | .int i => .int (1 + mixN m i % 9) | _ => .none) (fun d hd => by obtain ⟨i, _, rfl⟩ := List.mem_map.mp hd; rfl), List.map_map, List.map_map]
  rfl
theorem shares9_ok (m : Int) (n : Nat) : RuleOk (.turns (shares9 m n)) n := by
  refine ⟨by simp [shares9], fun i hi => ?_⟩
  have e : (shares9 m n).getD i 0 = 1 + mixN m i % 9 := by
    unfold shares9
    rw [List.getD_eq_getElem?_getD, List.getElem?_map, List.getElem?_range hi]; rfl
  rw [e]
  have := Int.emod_nonneg (mixN m i) (b := 9) (by decide)
  omega
/-- the rules that are asked, each with its greatest load -/
def itemD (n : Nat) (ru : Rule) : PyData := .tuple (ruleL ru ++ [.int (gOf ru n)])
def rl4 (m : Int) (n : Nat) : List Rule := [.turns (shares9 m n), .eldest, .rank none, .rank (some (m % 1000000))]
def rl2 (m : Int) : List Rule := [.many (greatOf m), .gather (greatOf m) (m / 24 % 1000000)]
def rls (m : Int) (n : Nat) : List Rule := rl4 m n ++ rl2 m ++ if 1 < n then [.meet] else []
theorem rls_ok {m : Int} {n : Nat} {ru : Rule} (h : ru ∈ rls m n) : RuleOk ru n ∧ RuleG ru := by
  have hp := great_pos (m := m)
  unfold rls rl4 rl2 at h
  simp only [List.mem_append, List.mem_cons, List.not_mem_nil, or_false] at h
  rcases h with ((rfl | rfl | rfl | rfl) | (rfl | rfl)) | h
  · exact ⟨shares9_ok m n, trivial⟩
  · exact ⟨trivial, trivial⟩
  · exact ⟨trivial, trivial⟩
  · exact ⟨trivial, trivial⟩
  · exact ⟨trivial, hp⟩
  · exact ⟨trivial, hp⟩
  · split at h
    · simp only [List.mem_cons, List.not_mem_nil, or_false] at h
      subst h
      exact ⟨trivial, trivial⟩
    · cases h
theorem cut_last {α : Type} (l : List α) (x : α) : L2.cutD (l ++ [x]) none (some (-1)) = l := by
  unfold L2.cutD HT.sIx
  simp
  rw [show (-1 + ((l.length : Int) + 1)).toNat = l.length by omega]
  simp
theorem last_at (l : List PyData) (x : PyData) : atI (l ++ [x]) (-1) = some x := by
  unfold atI ixN
  rw [List.length_append, List.length_singleton, if_neg (by decide), if_pos (by omega), show (-1 + ((l.length + 1 : Nat) : Int)).toNat = l.length by omega]
  simp
section
variable {P : Program} {w : World} {K : PySem.W.Frag} {mg : Str → Option Value} {base : Heap} {f : Addr} {k : Nat}
def Rlaw (ds : List PyData) (d : PyData) : Prop := ∃ ns : List Int, ds = [intsD ns] ∧ ns.length ≤ 63 ∧ d = .bool true
/-- law's promise -/
def spLaw (K : PySem.W.Frag) : Sp := fun vs H Q _ => ∃ (a : Addr) (ns : List Int), vs = [.ref a] ∧ SqL K H a (ns.map V.int) ∧ ns.length ≤ 63 ∧ ∀ H', Q (.bl true) H'
theorem reps_ints {K : PySem.W.Frag} {H : Hp} : ∀ ns : List Int, Reps K H (ns.map V.int) (ns.map PyData.int)
  | [] => .nil
  | n :: ns => .cons (.int n) (reps_ints ns)
theorem law_imp {fd : FuncData} {ps : List Str} (F : FnOk P w K mg base CX0 k f fd ps (spD K Rlaw)) : FnOk P w K mg base CX0 k f fd ps (spLaw K) := F.imp fun vs H Q E h => by
  obtain ⟨a, ns, rfl, hS, hn, q⟩ := h
  exact ⟨H, [intsD ns], .bool true, Same.refl _, .cons (.lst hS (reps_ints ns)) .nil, ⟨ns, rfl, hn, rfl⟩, fun v H0' H' g r => by cases r; exact q H'⟩
theorem cells_cut (ns : List Int) : L2.cutD (ns.map PyData.int) (some 3) (some 63) = (L2.cutD ns (some 3) (some 63)).map PyData.int := cut_map _ _ _ _

structure LawC (P : Program) (w : World) (K : PySem.W.Frag) (mg : Str → Option Value) (base : Heap) : Prop where
  n : Nm mg
  ft : Callable P w K mg base 6 "_law_fits" ["_law_rule", "_law_many", "_law_due", "_law_rows_here", "_law_turn", "_law_now"] (spD K Rfit)
  ro : Callable P w K mg base 2 "_law_rows" ["_law_cells", "_law_many"] (spD K Rrows)
  la : Callable P w K mg base 1 "_law_latest" ["_law_rows_here"] (spD K Rlate)
  mx : Callable P w K mg base 1 "_law_mix" ["_law_cell", "_law_k"] (spD K Rmix)
  ca : Callable P w K mg base 1 "_law_cell_at" ["_law_script", "_law_k"] (spD K Rcell)
abbrev Nlaw : List Str := ["_law_script", "_law_many", "_law_m", "_law_great", "_law_shares", "_law_rules", "_law_rows_here", "_law_rule"]
theorem sc_law : FnScope Nlaw ["_law_script"] (defScope (top 20)) := ⟨rfl, rfl, rfl, by decide +kernel, rfl, by decide +kernel, by decide +kernel⟩
theorem b_law (C : LawC P w K mg base) {ds : List PyData} {d : PyData} (h : Rlaw ds d) : BodyD P w K mg base Nlaw "law" (top 20) f 6 ds (.rt d) := by
  obtain ⟨ns, rfl, hn, rfl⟩ := h
  intro cdv A outer s H E hr
  have nd : Nlaw.Nodup := sc_law.nd
  have nc : (["_law_k", "_law_m"] : List Str).Nodup := by decide +kernel
  have hr1 : Room 1 _ := hr.mono (by omega)
  have hr2 : Room 2 _ := hr.mono (by omega)
  have m1 := manyOf_lo ns
  have m6 := manyOf_hi ns
  refine vss_cons (vs_set 1 (d := .int (manyOf ns : Nat)) (VE.to (ve_add ve_int (ve_mod (ve_call C.mx hr1 (va_cons (ve_call C.ca hr1 (va_cons (ve_var 0 rfl) (va_cons ve_int va_nil)) ⟨ns, 0, rfl, rfl⟩) (va_cons ve_int va_nil)) ⟨ns.getD 0 0, 1, rfl, by decide, by decide, rfl⟩) ve_int (by decide))) (by rw [manyOf_eq])) nd) ?_
  refine vss_cons (vs_set 2 (d := .int (mixN (ns.getD 1 0) 2)) (ve_call C.mx hr1 (va_cons (ve_call C.ca hr1 (va_cons (ve_var 0 rfl) (va_cons ve_int va_nil)) ⟨ns, 1, rfl, rfl⟩) (va_cons ve_int va_nil)) ⟨ns.getD 1 0, 2, rfl, by decide, by decide, rfl⟩) nd) ?_
  generalize mixN (ns.getD 1 0) 2 = m
  refine vss_cons (vs_set 3 (d := .int (greatOf m)) (ve_ix (VO.ve (vo_lst (va_cons (ve_add ve_int (ve_mod (ve_var 2 rfl) ve_int (by decide))) (va_cons (ve_add ve_int (ve_mod (ve_var 2 rfl) ve_int (by decide))) va_nil)))) (ve_mod (ve_div (ve_var 2 rfl) ve_int ⟨by decide, by decide⟩) ve_int (by decide)) (great_at m)) nd) ?_
  refine vss_cons (vs_set 4 (d := sharesD (shares9 m (manyOf ns))) (ve_callTy call_tuple_of cdTuple (va_cons (VO.ve (VO.to (vo_comp (own := ["_law_k"]) (cap := [2]) (N := ["_law_k", "_law_m"]) (tgt := .one 0) (F := Fsh9 m) (ds := rangeD (manyOf ns)) rfl ⟨rfl, by decide +kernel, by decide +kernel, rfl, rfl, ?_⟩
    (vi_range (n := (manyOf ns : Int)) (ve_var 1 rfl) C.n.rng (by omega) (by omega)) (fun f s3 H3 => pg_name (i := 0) nc rfl (Or.inl rfl)) rfl (small (by rw [rangeD_length]; omega)) (fun d hd => ?_)) (Fsh9_range m (manyOf ns)))) va_nil) C.n.tup rfl) nd) ?_
  · intro j hj
    rcases List.mem_cons.mp hj with rfl | hj
    · exact ⟨(by show (2 : Nat) < 8; decide), Or.inl rfl, rfl⟩
    · cases hj
  · obtain ⟨i, hi, rfl⟩ := List.mem_map.mp hd
    have hi := List.mem_range.mp hi
    exact ⟨_, rfl, fun f s3 H3 => vts_nil, fun r hr' f s3 H3 => by
      cases hr'
      exact ve_add ve_int (ve_mod (ve_call C.mx hr1 (va_cons (ve_var 1 rfl) (va_cons (ve_var 0 rfl) va_nil)) ⟨m, i, rfl, by omega, by omega, rfl⟩) ve_int (by decide))⟩
  refine vss_cons (vs_setO 5 (VO.to (k := (rl4 m (manyOf ns)).map (itemD (manyOf ns))) (vo_lst (va_cons (ve_tup (va_cons ve_str (va_cons (ve_var 4 rfl) (va_cons ve_int va_nil)))) (va_cons (ve_tup (va_cons ve_str (va_cons ve_int va_nil))) (va_cons (ve_tup (va_cons ve_str (va_cons ve_non (va_cons ve_int va_nil)))) (va_cons (ve_tup (va_cons ve_str (va_cons (ve_mod (ve_var 2 rfl) ve_int (by decide)) (va_cons ve_int va_nil)))) va_nil))))) rfl) nd) ?_
  refine vss_freeze 5 rfl ?_
  refine vss_cons (vs_setO 5 (VO.to (k := (rl4 m (manyOf ns) ++ rl2 m).map (itemD (manyOf ns))) (vo_cat (d1 := (rl4 m (manyOf ns)).map (itemD (manyOf ns))) (d2 := (rl2 m).map (itemD (manyOf ns))) (ve_var 5 rfl) (VO.ve (VO.to (vo_lst (va_cons (ve_tup (va_cons ve_str (va_cons (ve_var 3 rfl) (va_cons (ve_var 3 rfl) va_nil)))) (va_cons (ve_tup (va_cons ve_str (va_cons (ve_var 3 rfl) (va_cons (ve_mod (ve_div (ve_var 2 rfl) ve_int ⟨by decide, by decide⟩) ve_int (by decide)) (va_cons (ve_var 3 rfl) va_nil))))) va_nil))) rfl)) (small (by show 4 + 2 ≤ 1000; decide))) (by rw [List.map_append])) nd) ?_
  refine vss_cons (vs_if (o := .nx [.val (intsD ns), .val (.int (manyOf ns : Nat)), .val (.int m), .val (.int (greatOf m)), .val (sharesD (shares9 m (manyOf ns))), .own ((rls m (manyOf ns)).map (itemD (manyOf ns))), .un, .un]) (vt_gt (ve_var 1 rfl) ve_int) (fun e => ?_) (fun e => ?_)) ?_
  · have hm : 1 < manyOf ns := by have := of_decide_eq_true e; omega
    have el : (rls m (manyOf ns)).map (itemD (manyOf ns)) = (rl4 m (manyOf ns) ++ rl2 m).map (itemD (manyOf ns)) ++ [.tuple [.str "meet", .int (manyOf ns : Nat)]] := by
      unfold rls
      rw [if_pos hm, List.map_append]
      rfl
    rw [el]
    exact vss_one (vs_append 5 rfl (ve_tup (va_cons ve_str (va_cons (ve_var 1 rfl) va_nil))) (small' (by rw [List.length_map]; show 4 + 2 ≤ 1000; decide)))
  · have hm : ¬ 1 < manyOf ns := by have := of_decide_eq_false e; omega
    have el : rls m (manyOf ns) = rl4 m (manyOf ns) ++ rl2 m := by
      unfold rls
      rw [if_neg hm, List.append_nil]
    rw [el]
    exact vss_nil
  refine vss_cons (vs_set 6 (d := rowsD (mkRows (L2.cutD ns (some 3) (some 63)) (manyOf ns))) (ve_call C.ro hr2 (va_cons (VO.ve (VO.to (vo_slice (ds := ns.map PyData.int) (ve_var 0 rfl) (.yes ve_int) (.yes ve_int)) (cells_cut ns))) (va_cons (ve_var 1 rfl) va_nil)) ⟨_, manyOf ns, rfl, m1, m6, rfl⟩) nd) ?_
  have pre := pre_rows (cells := L2.cutD ns (some 3) (some 63)) m1 m6
  have hlr := mkRows_length (L2.cutD ns (some 3) (some 63)) (manyOf ns)
  generalize mkRows (L2.cutD ns (some 3) (some 63)) (manyOf ns) = R at *
  obtain ⟨M, hM1, hM2⟩ := late_ex R
  have hpl := Int.emod_nonneg (m / 5) (b := (manyOf ns : Int)) (by omega)
  have hpu := Int.emod_lt_of_pos (m / 5) (b := (manyOf ns : Int)) (by omega)
  obtain ⟨pl, hpe⟩ : ∃ pl : Nat, m / 5 % (manyOf ns : Int) = (pl : Int) := ⟨_, (Int.toNat_of_nonneg hpl).symm⟩
  have hplt : pl < manyOf ns := by omega
  refine vss_freeze 5 rfl ?_
  refine vss_cons (vs_for (tgt := .one 7) PassesOwn.never rfl (vi_list (ds := (rls m (manyOf ns)).map (itemD (manyOf ns))) (ve_var 5 rfl)) (pg_name (i := 7) nd rfl (Or.inl rfl))
    (fun _ => [.val (intsD ns), .val (.int (manyOf ns : Nat)), .val (.int m), .val (.int (greatOf m)), .val (sharesD (shares9 m (manyOf ns))), .val (.list ((rls m (manyOf ns)).map (itemD (manyOf ns)))), .val (rowsD R), .un]) ((rls m (manyOf ns)).map (itemD (manyOf ns))).length rfl (Nat.le_refl _) (fun i d hi hd => ?_) (.inl ⟨rfl, rfl⟩)) (vss_one (vs_ret ve_bl))
  obtain ⟨ru, hru, rfl⟩ := List.mem_map.mp (List.mem_of_getElem? hd)
  obtain ⟨r1, r2⟩ := rls_ok hru
  refine ⟨_, rfl, ?_⟩
  refine vss_out (vss_one (vs_ifF (VT.to (vt_not (vt_tru (ve_call C.ft hr (va_cons (VE.to (ve_sliceT (ds := ruleL ru ++ [.int (gOf ru (manyOf ns))]) (ve_var 7 rfl) .no (.yes (ve_neg ve_int)) ?hw) (by rw [cut_last]; rfl)) (va_cons (ve_var 1 rfl) (va_cons (ve_ixT (ds := ruleL ru ++ [.int (gOf ru (manyOf ns))]) (ve_var 7 rfl) (ve_neg ve_int) (last_at _ _)) (va_cons (ve_var 6 rfl) (va_cons (ve_tup (va_cons (VE.to (ve_mod (ve_div (ve_var 2 rfl) ve_int ⟨by decide, by decide⟩) (ve_var 1 rfl) (by omega)) (by rw [hpe])) (va_cons ve_int va_nil)))
    (va_cons (ve_add (ve_call C.la hr1 (va_cons (ve_var 6 rfl) va_nil) ⟨R, M, rfl, pre, hM1, hM2, rfl⟩) (ve_mod (ve_var 2 rfl) ve_int (by decide))) va_nil)))))) ⟨ru, R, manyOf ns, pl, _, rfl, pre, hlr, m1, m6, hplt, r1, r2, rfl⟩) rfl)) rfl) vss_nil)) ⟨.inr rfl, .inr rfl, .inr rfl, .inr rfl, .inr rfl, .inr rfl, .inr rfl, .inl rfl, trivial⟩
  intro hh
  have h2 := hh.2
  rw [List.length_append] at h2
  unfold HT.sIx at h2
  simp at h2
  omega
theorem f_law {fd : FuncData} (F : Fun K "law" "law" (top 20) f fd) (C : LawC P w K mg base) : FnOk P w K mg base CX0 7 f fd ["_law_script"] (spLaw K) :=
  law_imp (fn_D F sc_law (fun _ _ h => by obtain ⟨_, rfl, _⟩ := h; rfl) fun _ _ h => b_law C h)
end
end Mg

set_option Elab.async false
set_option linter.all false
set_option maxRecDepth 100000
set_option maxHeartbeats 4000000
namespace Mg
open L2 PySem PyProof.Rows
section
variable {P : Program} {w : World} {K : PySem.W.Frag} {mg : Str → Option Value} {base : Heap} {f : Addr} {k : Nat}
theorem b_fil (n : Nm mg) {ds es : List PyData} (h : Rfil ds es) : BodyD P w K mg base Nfil "_law_filled" (top 18) f k ds (.ro es) := by
  obtain ⟨m, rfl, hm, rfl⟩ := h
  intro cdv A outer s H E hr
  have nd : Nfil.Nodup := sc_fil.nd
  have nc : (["_law_place", "_law_most"] : List Str).Nodup := by decide +kernel
  have nc2 : (["_law_k", "_law_place"] : List Str).Nodup := by decide +kernel
  refine vss_one (vs_retO (VO.to (vo_comp1 (x0 := "_law_place") (own := ["_law_place"]) (cap := [1]) (N := ["_law_place", "_law_most"]) (tgt := .one 0) (F := Fr) (ds := rangeD m) rfl ⟨rfl, by decide +kernel, by decide +kernel, rfl, rfl, ?_, rfl, fun _ => rfl⟩
    (vi_range (n := (m : Int)) (ve_var 0 rfl) n.rng (by omega) (by omega)) (fun f s3 H3 => pg_name (i := 0) nc rfl (Or.inr rfl)) rfl (small (by rw [rangeD_length]; omega)) (fun d hd => ?_)) (Fr_rows m)))
  · intro j hj
    rcases List.mem_cons.mp hj with rfl | hj
    · exact ⟨(by show (1 : Nat) < 2; decide), Or.inl rfl, rfl⟩
    · cases hj
  · obtain ⟨i, hi, rfl⟩ := List.mem_map.mp hd
    refine ⟨_, rfl, fun f s3 H3 => vts_nil, fun r hr' f s3 H3 => ?_⟩
    cases hr'
    refine VO.ve (VO.to (vo_comp (own := ["_law_k"]) (cap := [0]) (N := ["_law_k", "_law_place"]) (tgt := .one 0) (F := Fg i) (ds := rangeD 13) rfl ⟨rfl, by decide +kernel, by decide +kernel, rfl, rfl, ?_⟩
      (vi_range (n := 13) (ve_var 1 rfl) n.rng (by decide) (by decide)) (fun f s3 H3 => pg_name (i := 0) nc2 rfl (Or.inl rfl)) rfl (small (by decide)) (fun d hd => ?_)) (Fg_row i))
    · intro j hj
      rcases List.mem_cons.mp hj with rfl | hj
      · exact ⟨(by show (0 : Nat) < 2; decide), Or.inl rfl, rfl⟩
      · cases hj
    · obtain ⟨q, hq, rfl⟩ := List.mem_map.mp hd
      refine ⟨_, rfl, fun f s3 H3 => vts_nil, fun r hr' f s3 H3 => ?_⟩
      cases hr'
      exact ve_tup (va_cons (ve_add (ve_mul ve_int (ve_var 1 rfl) (.inl ⟨by decide, by decide⟩)) (ve_var 0 rfl)) (va_cons (ve_var 0 rfl) (va_cons ve_str (va_cons ve_str va_nil))))
theorem f_fil {fd : FuncData} (F : Fun K "_law_filled" "_law_filled" (top 18) f fd) (n : Nm mg) : FnOk P w K mg base CX0 1 f fd ["_law_many", "_law_most"] (spO K Rfil) :=
  fn_O F sc_fil (fun _ _ h => by obtain ⟨_, rfl, _⟩ := h; rfl) fun _ _ h => b_fil n h
end
end Mg

set_option Elab.async false
set_option linter.all false
set_option maxRecDepth 100000
set_option maxHeartbeats 4000000
namespace Mg
open L2 PySem PyProof.Rows
/-! ### the defs as the top has written them -/
structure DefAt (K : PySem.W.Frag) (mg : Str → Option Value) (x : Str) (st : Stmt) (ps : List Str) : Prop where
  ex : ∃ f fd, Fun K x x st f fd ∧ mg x = some (.ref f) ∧ ∀ us : List Value, us.length = ps.length → bindArgs fd ⟨us, []⟩ = pure (ps.zip us)
theorem def_mk {K : PySem.W.Frag} {h : Heap} {mg : Str → Option Value} {x : Str} {st : Stmt} {ps : List Str} {f : Addr} {oc : Value} {od an : Option Addr} {osl : Array (Option Value)} {kV doc pm cdv ct : Value} (X : K.In h) (G : h.Ns mainGlobals mg)
    (hb : ∀ (kV doc pm : Value) (an : Option Addr) (cdv ct : Value) (us : List Value), us.length = ps.length → bindArgs (PySem.W.fnOf x x (defArgs st) (defBody st) (defScope st) .none kV doc pm an cdv ct) ⟨us, []⟩ = pure (ps.zip us))
    (a : PySem.W.nsIn K mainGlobals x = some (some (.ref f))) (l : K.lookup f = some ⟨oc, od, .func (PySem.W.fnOf x x (defArgs st) (defBody st) (defScope st) .none kV doc pm an cdv ct), osl⟩)
    (c : PySem.W.codeIn K cdv x = true) (k : PySem.W.keepIn K (.ref f) = true) : DefAt K mg x st ps :=
  ⟨f, _, fun_mk l c k, PySem.W.mg_of X G a, hb kV doc pm an cdv ct⟩
section
variable {P : Program} {w : World} {K : PySem.W.Frag} {mg : Str → Option Value} {base : Heap} {f : Addr} {k : Nat}
theorem DefAt.call {x : Str} {st : Stmt} {ps : List Str} {sp : Sp} (D : DefAt K mg x st ps) (h : ∀ f fd, Fun K x x st f fd → FnOk P w K mg base CX0 k f fd ps sp) : Callable P w K mg base k x ps sp := by
  obtain ⟨f, fd, F, hm, hb⟩ := D.ex
  exact ⟨f, fd, h f fd F, hm, F.kp, .all hb⟩
structure Defs (K : PySem.W.Frag) (mg : Str → Option Value) : Prop where
  n : Nm mg
  kt : Kt K
  d1 : DefAt K mg "load_of" (top 1) ["rule", "rows", "turn", "now"]
  d2 : DefAt K mg "greatest_load" (top 2) ["rule", "many"]
  d3 : DefAt K mg "spots_by_age" (top 3) ["rows"]
  d4 : DefAt K mg "good_at" (top 4) ["rows", "spot"]
  d5 : DefAt K mg "waited" (top 5) ["rows", "spot", "now"]
  d6 : DefAt K mg "load_by_turns" (top 6) ["shares", "rows", "turn"]
  d7 : DefAt K mg "load_by_age" (top 7) ["rule", "rows", "spots", "now"]
  d8 : DefAt K mg "load_by_rank" (top 8) ["bound", "rows", "spots", "now"]
  d9 : DefAt K mg "load_of_kind" (top 9) ["most", "rows", "spots"]
  d10 : DefAt K mg "load_gathered" (top 10) ["most", "age", "rows", "spots", "now"]
  d11 : DefAt K mg "load_met" (top 11) ["rows", "spots"]
  d12 : DefAt K mg "first_of_parcel" (top 12) ["parcel", "rows"]
  d14 : DefAt K mg "_law_cell_at" (top 14) ["_law_script", "_law_k"]
  d15 : DefAt K mg "_law_mix" (top 15) ["_law_cell", "_law_k"]
  d16 : DefAt K mg "_law_rows" (top 16) ["_law_cells", "_law_many"]
  d17 : DefAt K mg "_law_latest" (top 17) ["_law_rows_here"]
  d18 : DefAt K mg "_law_filled" (top 18) ["_law_many", "_law_most"]
  d19 : DefAt K mg "_law_fits" (top 19) ["_law_rule", "_law_many", "_law_due", "_law_rows_here", "_law_turn", "_law_now"]
theorem Defs.all (D : Defs K mg) : LawC P w K mg base := by
  have n := D.n
  have c4 : Callable P w K mg base 1 "good_at" ["rows", "spot"] (spD K Rgood) := D.d4.call fun _ _ F => f_good F
  have c5 : Callable P w K mg base 2 "waited" ["rows", "spot", "now"] (spD K Rwait) := D.d5.call fun _ _ F => f_wait F c4
  have c3 : Callable P w K mg base 1 "spots_by_age" ["rows"] (spO K Rspots) := D.d3.call fun _ _ F => f_spots F n.enu n.srt
  have c6 : Callable P w K mg base 1 "load_by_turns" ["shares", "rows", "turn"] (sp2 K Rturns) := D.d6.call fun _ _ F => f_turns F n.len
  have c9 : Callable P w K mg base 2 "load_of_kind" ["most", "rows", "spots"] (spO K Rkind) := D.d9.call fun _ _ F => f_kind F c4
  have c10 : Callable P w K mg base 3 "load_gathered" ["most", "age", "rows", "spots", "now"] (spO K Rgat) := D.d10.call fun _ _ F => f_gat F n.len c5
  have c12 : Callable P w K mg base 1 "first_of_parcel" ["parcel", "rows"] (spO K Rfop) := D.d12.call fun _ _ F => f_fop F n.enu
  have c11 : Callable P w K mg base 2 "load_met" ["rows", "spots"] (spO K Rmet) := D.d11.call fun _ _ F => f_met F n.len c4 c12
  have c8 : Callable P w K mg base 3 "load_by_rank" ["bound", "rows", "spots", "now"] (spO K Rrank) := D.d8.call fun _ _ F => f_rank F n.min c5
  have c7 : Callable P w K mg base 4 "load_by_age" ["rule", "rows", "spots", "now"] (spO K Rage) := D.d7.call fun _ _ F => f_age F c9 c10 c11 c8
  have c1 : Callable P w K mg base 5 "load_of" ["rule", "rows", "turn", "now"] (sp2 K Rload) := D.d1.call fun _ _ F => f_load F n.any c3 c6 c7
  have c2 : Callable P w K mg base 1 "greatest_load" ["rule", "many"] (spD K Rgl) := D.d2.call fun _ _ F => f_gl F
  have c14 : Callable P w K mg base 1 "_law_cell_at" ["_law_script", "_law_k"] (spD K Rcell) := D.d14.call fun _ _ F => f_cell F n.len
  have c15 : Callable P w K mg base 1 "_law_mix" ["_law_cell", "_law_k"] (spD K Rmix) := D.d15.call fun _ _ F => f_mix F
  have c16 : Callable P w K mg base 2 "_law_rows" ["_law_cells", "_law_many"] (spD K Rrows) := D.d16.call fun _ _ F => f_rows F n c15 c14
  have c17 : Callable P w K mg base 1 "_law_latest" ["_law_rows_here"] (spD K Rlate) := D.d17.call fun _ _ F => f_late F n.max
  have c18 : Callable P w K mg base 1 "_law_filled" ["_law_many", "_law_most"] (spO K Rfil) := D.d18.call fun _ _ F => f_fil F n
  have c19 : Callable P w K mg base 6 "_law_fits" ["_law_rule", "_law_many", "_law_due", "_law_rows_here", "_law_turn", "_law_now"] (spD K Rfit) := D.d19.call fun _ _ F => f_fit F n D.kt ⟨c2, c1, c18⟩
  exact ⟨n, c19, c16, c17, c15, c14⟩
end
theorem walk {l : PySem.W.OpenLaw} {q : Program} {loose : List Str} {XP : (Str → Option Value) → Heap → Prop} {YP : World → Heap → Prop} {d : DefRec} {K : Params → PySem.W.Frag} (hn : l.most = some 63) (hdf : d.params.defaults = []) (hdn : d.name = "law")
    (hY : ∀ (w : World) (h : Heap), YP w h → (K w.params).In h)
    (F : ∀ (w : World) (mg : Str → Option Value) (h : Heap), (K w.params).In h → h.Ns mainGlobals mg → Defs (K w.params) mg ∧ DefAt (K w.params) mg "law" (top 20) ["_law_script"]) :
    PySem.W.WalkO q loose XP YP l.row.toRowW d [] (fun f vs => PySem.call f vs) :=
  L2.walk_of (n := 63) (k := 7) (x := "_law_script") (CX := fun _ => CX0) (sp := fun w => spLaw (K w.params)) hn (by decide) hdf ⟨rfl, by decide, by decide⟩ hY (fun w mg fa h X G hmg => by
    obtain ⟨D, L⟩ := F w mg h X G
    obtain ⟨f, fd, Fl, hm, hb⟩ := L.ex
    rw [hdn] at hmg
    rw [hm] at hmg
    cases hmg
    exact ⟨fd, fun s v => .of_eq (hb [v] rfl), fun base _ _ => f_law Fl D.all⟩) (fun _ _ a ns hl _ hS => ⟨a, ns, rfl, hS, hl, fun _ => rfl⟩) fun _ _ _ _ _ z => z
end Mg
open PySem PySem.W PyProof.Rows
set_option maxRecDepth 100000 in
set_option maxHeartbeats 0 in
theorem PySem.Challenge.cw_mergeline_k26_greatest_loads_holds : PySem.Challenge.rw_mergeline_k26_greatest_loads.Holds := by
  w_on; o_law; k_head; (case hw => w_witness2)
  k_fill
  refine Mg.walk (l := PySem.Challenge.rw_mergeline_k26_greatest_loads) rfl rfl rfl (fun w h Y => PySem.W.kIn_of Y) ?F
  case F =>
    intro w mg h KX G
    refine ⟨⟨⟨?n1, ?n2, ?n3, ?n4, ?n5, ?n6, ?n7, ?n8, ?n9, ?n10, ?n11, ?n12, ?n13⟩, ⟨?t1, ?t2, ?t3, ?t4⟩, ?d1, ?d2, ?d3, ?d4, ?d5, ?d6, ?d7, ?d8, ?d9, ?d10, ?d11, ?d12, ?d14, ?d15, ?d16, ?d17, ?d18, ?d19⟩, ?d20⟩
    case n1 => exact PySem.W.mg_none_of KX G (by k_is)
    case n2 => exact PySem.W.mg_none_of KX G (by k_is)
    case n3 => exact PySem.W.mg_none_of KX G (by k_is)
    case n4 => exact PySem.W.mg_none_of KX G (by k_is)
    case n5 => exact PySem.W.mg_none_of KX G (by k_is)
    case n6 => exact PySem.W.mg_none_of KX G (by k_is)
    case n7 => exact PySem.W.mg_none_of KX G (by k_is)
    case n8 => exact PySem.W.mg_none_of KX G (by k_is)
    case n9 => exact PySem.W.mg_none_of KX G (by k_is)
    case n10 => exact PySem.W.mg_none_of KX G (by k_is)
    case n11 => exact PySem.W.mg_none_of KX G (by k_is)
    case n12 => exact PySem.W.mg_none_of KX G (by k_is)
    case n13 => exact PySem.W.mg_none_of KX G (by k_is)
    case t1 => kit_is
    case t2 => kit_is
    case t3 => kit_is
    case t4 => kit_is
    case d1 => refine' Mg.def_mk KX G (fun _ _ _ _ _ _ us hl => match us, hl with | [_, _, _, _], _ => rfl) ?a ?l ?c ?k; (case a => k_is); (case l => k_is); (case c => k_is); (case k => k_is)
    case d2 => refine' Mg.def_mk KX G (fun _ _ _ _ _ _ us hl => match us, hl with | [_, _], _ => rfl) ?a ?l ?c ?k; (case a => k_is); (case l => k_is); (case c => k_is); (case k => k_is)
    case d3 => refine' Mg.def_mk KX G (fun _ _ _ _ _ _ us hl => match us, hl with | [_], _ => rfl) ?a ?l ?c ?k; (case a => k_is); (case l => k_is); (case c => k_is); (case k => k_is)
    case d4 => refine' Mg.def_mk KX G (fun _ _ _ _ _ _ us hl => match us, hl with | [_, _], _ => rfl) ?a ?l ?c ?k; (case a => k_is); (case l => k_is); (case c => k_is); (case k => k_is)
    case d5 => refine' Mg.def_mk KX G (fun _ _ _ _ _ _ us hl => match us, hl with | [_, _, _], _ => rfl) ?a ?l ?c ?k; (case a => k_is); (case l => k_is); (case c => k_is); (case k => k_is)
    case d6 => refine' Mg.def_mk KX G (fun _ _ _ _ _ _ us hl => match us, hl with | [_, _, _], _ => rfl) ?a ?l ?c ?k; (case a => k_is); (case l => k_is); (case c => k_is); (case k => k_is)
    case d7 => refine' Mg.def_mk KX G (fun _ _ _ _ _ _ us hl => match us, hl with | [_, _, _, _], _ => rfl) ?a ?l ?c ?k; (case a => k_is); (case l => k_is); (case c => k_is); (case k => k_is)
    case d8 => refine' Mg.def_mk KX G (fun _ _ _ _ _ _ us hl => match us, hl with | [_, _, _, _], _ => rfl) ?a ?l ?c ?k; (case a => k_is); (case l => k_is); (case c => k_is); (case k => k_is)
    case d9 => refine' Mg.def_mk KX G (fun _ _ _ _ _ _ us hl => match us, hl with | [_, _, _], _ => rfl) ?a ?l ?c ?k; (case a => k_is); (case l => k_is); (case c => k_is); (case k => k_is)
    case d10 => refine' Mg.def_mk KX G (fun _ _ _ _ _ _ us hl => match us, hl with | [_, _, _, _, _], _ => rfl) ?a ?l ?c ?k; (case a => k_is); (case l => k_is); (case c => k_is); (case k => k_is)
    case d11 => refine' Mg.def_mk KX G (fun _ _ _ _ _ _ us hl => match us, hl with | [_, _], _ => rfl) ?a ?l ?c ?k; (case a => k_is); (case l => k_is); (case c => k_is); (case k => k_is)
    case d12 => refine' Mg.def_mk KX G (fun _ _ _ _ _ _ us hl => match us, hl with | [_, _], _ => rfl) ?a ?l ?c ?k; (case a => k_is); (case l => k_is); (case c => k_is); (case k => k_is)
    case d14 => refine' Mg.def_mk KX G (fun _ _ _ _ _ _ us hl => match us, hl with | [_, _], _ => rfl) ?a ?l ?c ?k; (case a => k_is); (case l => k_is); (case c => k_is); (case k => k_is)
    case d15 => refine' Mg.def_mk KX G (fun _ _ _ _ _ _ us hl => match us, hl with | [_, _], _ => rfl) ?a ?l ?c ?k; (case a => k_is); (case l => k_is); (case c => k_is); (case k => k_is)
    case d16 => refine' Mg.def_mk KX G (fun _ _ _ _ _ _ us hl => match us, hl with | [_, _], _ => rfl) ?a ?l ?c ?k; (case a => k_is); (case l => k_is); (case c => k_is); (case k => k_is)
    case d17 => refine' Mg.def_mk KX G (fun _ _ _ _ _ _ us hl => match us, hl with | [_], _ => rfl) ?a ?l ?c ?k; (case a => k_is); (case l => k_is); (case c => k_is); (case k => k_is)
    case d18 => refine' Mg.def_mk KX G (fun _ _ _ _ _ _ us hl => match us, hl with | [_, _], _ => rfl) ?a ?l ?c ?k; (case a => k_is); (case l => k_is); (case c => k_is); (case k => k_is)
    case d19 => refine' Mg.def_mk KX G (fun _ _ _ _ _ _ us hl => match us, hl with | [_, _, _, _, _, _], _ => rfl) ?a ?l ?c ?k; (case a => k_is); (case l => k_is); (case c => k_is); (case k => k_is)
    case d20 => refine' Mg.def_mk KX G (fun _ _ _ _ _ _ us hl => match us, hl with | [_], _ => rfl) ?a ?l ?c ?k; (case a => k_is); (case l => k_is); (case c => k_is); (case k => k_is)

