import PyProof.Rows.All
import Wide.All
import OpenK.AllK
import Wide.FinOn
import Lean
import PyProof.EqAt
import PyProof.EqKinds
import PyProof.TupleCall
import PySem.SetOps
import PyProof.Rows.SetFrom
import PyProof.CollectIter
import KE.KDictList
import PyProof.Rows.SortShell
import PyProof.ZipIter
import PyProof.Rows.ZipGen
import PyProof.ListNew
import PyProof.RaisesAny
import PyProof.ListCopy
import OpenK.KOwn
import KE.KIsAll
import PyProof.ExcArgsOwn
import PyProof.ConsumeWalk
import PyProof.StrLawsTight
import KE.KIntText
import KE.IntTextText
import PyProof.Rows.FStr
import PyProof.StrWalks
import PyProof.StrCalls2
import PyProof.FString5
import PyProof.SliceStr2
import PyProof.RulesTry
import PySem.Challenge.RW_cutline_k13_lines_written
set_option Elab.async false
set_option linter.all false
set_option maxRecDepth 100000
/-! THE HAND LAYER, for ints, bools, texts, own classes, LISTS and tuples (index, slices, in, append, pop ..), calls, loops. Paste it whole ahead of your own text; what your proof does not reach may be deleted. -/
namespace L2
open PySem PySem.Spec PyProof.Rows

/-- a key: an int or a str -/
abbrev Key := Sum Int Str
def keyIs : Key → Value → Bool
  | .inl k, v => Value.isInt k v
  | .inr x, v => Value.isStrOf x v
def keyH (w : World) : Key → Int
  | .inl k => hashInt k
  | .inr x => hashStr w x
theorem keyIs_shape : ∀ {k : Key} {v : Value}, keyIs k v = true → (∃ i t, k = Sum.inl i ∧ v = Value.int i t) ∨ (∃ x t, k = Sum.inr x ∧ v = Value.str x t)
  | .inl i, v, h => by
    obtain ⟨t, e⟩ := Value.isInt_shape (k := i) (v := v) h
    exact .inl ⟨i, t, rfl, e⟩
  | .inr x, v, h => by
    obtain ⟨t, e⟩ := Value.isStrOf_shape (x := x) (v := v) h
    exact .inr ⟨x, t, rfl, e⟩
theorem keyIs_int (i : Int) (t : Tok) : keyIs (.inl i) (.int i t) = true := by simp [keyIs, Value.isInt]
theorem keyIs_str (x : Str) (t : Tok) : keyIs (.inr x) (.str x t) = true := by simp [keyIs, Value.isStrOf]
theorem key_ll (a b : Int) : decide ((Sum.inl a : Key) = Sum.inl b) = (a == b) := by
  by_cases e : a = b
  · subst e; simp
  · have h : ¬ (Sum.inl a : Key) = Sum.inl b := fun q => e (Sum.inl.inj q)
    rw [decide_eq_false h]
    exact (beq_eq_false_iff_ne.mpr e).symm
theorem key_rr (a b : Str) : decide ((Sum.inr a : Key) = Sum.inr b) = decide (a = b) := by
  by_cases e : a = b
  · subst e; simp
  · have h : ¬ (Sum.inr a : Key) = Sum.inr b := fun q => e (Sum.inr.inj q)
    rw [decide_eq_false h, decide_eq_false e]
theorem key_lr (a : Int) (b : Str) : decide ((Sum.inl a : Key) = Sum.inr b) = false := decide_eq_false (fun q => nomatch q)
theorem key_rl (a : Str) (b : Int) : decide ((Sum.inr a : Key) = Sum.inl b) = false := decide_eq_false (fun q => nomatch q)

def mixKind (prog : Program) (w : World) : PySem.KeyKind prog w Key where
  is := keyIs
  hash := keyH w
  inj := fun v a b ha hb => by
    rcases keyIs_shape ha with ⟨i, t, rfl, rfl⟩ | ⟨x, t, rfl, rfl⟩
    · rcases keyIs_shape hb with ⟨j, u, rfl, e⟩ | ⟨y, u, rfl, e⟩
      · injection e with e1 _; rw [e1]
      · exact nomatch e
    · rcases keyIs_shape hb with ⟨j, u, rfl, e⟩ | ⟨y, u, rfl, e⟩
      · exact nomatch e
      · injection e with e1 _; rw [e1]
  byValue := fun k v h => by
    rcases keyIs_shape h with ⟨i, t, rfl, rfl⟩ | ⟨x, t, rfl, rfl⟩ <;> rfl
  pyHash := fun hv h => by
    rcases keyIs_shape hv with ⟨i, t, rfl, rfl⟩ | ⟨x, t, rfl, rfl⟩
    · exact wpAny_pyHash_int h
    · exact wpAny_pyHash_str h
  eqBool := fun hu hv h => by
    rcases keyIs_shape hu with ⟨i, t, rfl, rfl⟩ | ⟨x, t, rfl, rfl⟩
    · rcases keyIs_shape hv with ⟨j, u, rfl, rfl⟩ | ⟨y, u, rfl, rfl⟩
      · rw [key_ll] at h; exact wpAny_eqBool_int h
      · rw [key_lr] at h; exact SeqAt.EqAt.int_str i t y u _ _ _ _ h
    · rcases keyIs_shape hv with ⟨j, u, rfl, rfl⟩ | ⟨y, u, rfl, rfl⟩
      · rw [key_rl] at h; exact SeqAt.EqAt.str_int x t j u _ _ _ _ h
      · rw [key_rr] at h; exact wpAny_eqBool_str h
  «strs» := fun k x t v h => by
    rcases keyIs_shape h with ⟨i, u, rfl, e⟩ | ⟨y, u, rfl, e⟩
    · exact nomatch e
    · injection e with e1 _
      subst e1
      cases v <;> rfl

theorem mixKind_is (prog : Program) (w : World) (k : Key) (v : Value) : (mixKind prog w).is k v = keyIs k v := rfl
theorem mixKind_int (prog : Program) (w : World) (i : Int) (t : Tok) : (mixKind prog w).is (.inl i) (.int i t) = true := keyIs_int i t
theorem mixKind_str (prog : Program) (w : World) (x : Str) (t : Tok) : (mixKind prog w).is (.inr x) (.str x t) = true := keyIs_str x t
end L2

namespace L2
open PySem PySem.Spec PyProof.Rows

/-- a value, without the heap -/
inductive V where
  | non | bl (b : Bool) | int (i : Int) | str (x : Str) | byt (b : Array UInt8) | flt (b : UInt64) | ref (a : Addr) | ty (n : String)
  deriving DecidableEq

def RelV : V → Value → Prop
  | .non, u => u = Value.none
  | .bl b, u => u = Value.bool b
  | .int i, u => ∃ t, u = Value.int i t
  | .str x, u => ∃ t, u = Value.str x t
  | .byt b, u => ∃ t, u = Value.bytes b t
  | .flt b, u => ∃ t, u = Value.float b t
  | .ref a, u => u = Value.ref a
  | .ty n, u => u = Value.type n

abbrev Vals : List V → List Value → Prop := Paired RelV
theorem Vals.length {xs : List V} {us : List Value} (r : Vals xs us) : xs.length = us.length := Paired.length r
theorem Vals.get : ∀ {xs : List V} {us : List Value} {i : Nat} {x : V}, Vals xs us → xs[i]? = some x → ∃ u, us[i]? = some u ∧ RelV x u
  | _, _, _, _, .nil, e => by simp at e
  | _, _, 0, _, .cons r _, e => by simp at e; subst e; exact ⟨_, rfl, r⟩
  | _, _, i + 1, x, .cons _ t, e => by
    obtain ⟨u, h1, h2⟩ := Vals.get (i := i) (x := x) t (by simpa using e)
    exact ⟨u, by simpa using h1, h2⟩
theorem Vals.set {x : V} {u : Value} (r : RelV x u) : ∀ {xs : List V} {us : List Value} (i : Nat), Vals xs us → Vals (xs.set i x) (us.set i u)
  | _, _, _, .nil => .nil
  | _, _, 0, .cons _ t => .cons r t
  | _, _, i + 1, .cons q t => .cons q (Vals.set r i t)
theorem Vals.append : ∀ {xs ys : List V} {us ws : List Value}, Vals xs us → Vals ys ws → Vals (xs ++ ys) (us ++ ws)
  | _, _, _, _, .nil, s => s
  | _, _, _, _, .cons r t, s => .cons r (Vals.append t s)
theorem Vals.take : ∀ {xs : List V} {us : List Value} (n : Nat), Vals xs us → Vals (xs.take n) (us.take n)
  | _, _, 0, _ => .nil
  | _, _, _ + 1, .nil => .nil
  | _, _, n + 1, .cons r t => .cons r (Vals.take n t)
theorem Vals.drop : ∀ {xs : List V} {us : List Value} (n : Nat), Vals xs us → Vals (xs.drop n) (us.drop n)
  | _, _, 0, r => r
  | _, _, _ + 1, .nil => .nil
  | _, _, n + 1, .cons _ t => Vals.drop n t
theorem Vals.none_of : ∀ {xs : List V} {us : List Value} {i : Nat}, Vals xs us → xs[i]? = none → us[i]? = none := fun {xs us i} r e => by
  have h1 := r.length
  have h2 : xs.length ≤ i := List.getElem?_eq_none_iff.mp e
  exact List.getElem?_eq_none_iff.mpr (by omega)

def RelO : Option V → Option Value → Prop
  | some v, some u => RelV v u
  | none, none => True
  | _, _ => False
def KV {κ : Type} : List (κ × V) → List (κ × Value) → Prop := Paired fun (p : κ × V) (q : κ × Value) => p.1 = q.1 ∧ RelV p.2 q.2

/-- a key of a dict (00_mix): an int or a text -/
def kV : Key → V
  | .inl i => .int i
  | .inr x => .str x

/-- what stands at a tracked address -/
inductive HO where
  /-- a list -/
  | lst (xs : List V)
  /-- a tuple (never changes) -/
  | tup (xs : List V)
  /-- a dict whose keys are ints and texts; one whose keys are tuples of ints and texts (the empty one is both) -/
  | dK (kvs : List (Key × V)) | dT (kvs : List (List Key × V))
  /-- a set of ints: its members, its size -/
  | set (S : Int → Bool) (n : Nat)
  /-- an instance of the class at C, its dict at dx, its attributes -/
  | ins (C dx : Addr) (fs : List (Str × V))
  /-- the dict of the instance at x -/
  | own (x : Addr)
  /-- the dict of an exception -/
  | xd (fs : List (Str × V))
  /-- a bound method, f of x -/
  | met (f x : Addr)
  /-- a range object lo, lo + 1, .. below hi -/
  | rng (lo hi : Int)
  /-- a thing that is known to the object (the script; a dict while a loop walks it): read, never written while it is so -/
  | frz (o : Obj) (u : HO)
  /-- a code object's table -/
  | tbl (ps : Array Value)
  /-- any other thing, by what is true of its one object (a def of one's own: SetO a S n := HO.ext fun h => ..) -/
  | ext (φ : Heap → Prop)

abbrev Hp := Addr → Option HO
def upd (H : Hp) (a : Addr) (o : HO) : Hp := fun b => if b = a then some o else H b
theorem upd_same {H : Hp} {a : Addr} {o : HO} : upd H a o a = some o := by unfold upd; rw [if_pos rfl]
theorem upd_ne {H : Hp} {a b : Addr} {o : HO} (h : b ≠ a) : upd H a o b = H b := by unfold upd; rw [if_neg h]
theorem upd_upd {H : Hp} {a : Addr} {o u : HO} : upd (upd H a o) a u = upd H a u := by
  funext b; unfold upd; split <;> rfl
/-- two objects of different content stand apart -/
theorem ne_of {H : Hp} {a b : Addr} {o u : HO} (h : H a = some o) (h' : H b = some u) (d : o ≠ u) : a ≠ b := by
  intro e; subst e; rw [h] at h'; exact d (Option.some.inj h')
theorem ne_of_none {H : Hp} {a b : Addr} {o : HO} (h : H a = some o) (h' : H b = none) : a ≠ b := by
  intro e; subst e; rw [h] at h'; cases h'

section
variable (P : Program) (w : World)
def ObjOk (H : Hp) (h : Heap) (a : Addr) : HO → Prop
  | .lst xs => xs.length ≤ sizeLine ∧ ∃ (its : List Value) (n : Nat), Vals xs its ∧ h.get? a = some { cls := .type "list", data := .seq its.toArray n }
  | .tup xs => xs.length ≤ sizeLine ∧ ∃ its : List Value, Vals xs its ∧ IsTup h a its.toArray
  | .dK kvs => kvs.length ≤ sizeLine ∧ (a == sysModules) = false ∧ ∃ vs, KV kvs vs ∧ h.DictOf (mixKind P w) a vs
  | .dT kvs => kvs.length ≤ sizeLine ∧ (a == sysModules) = false ∧ ∃ xs : List (List Key × Addr × Value),
      Paired (fun (p : List Key × V) (q : List Key × Addr × Value) => p.1 = q.1 ∧ H q.2.1 = some (.tup (p.1.map kV)) ∧ RelV p.2 q.2.2) kvs xs ∧
      ∃ o es ep, h.get? a = some o ∧ o.ExactDict ∧ o.data = .dict es ep ∧ es.toList = xs.map (entryOfKey (tupleKind (mixKind P w))) ∧ (xs.map (·.1)).Nodup
  | .set S n => h.SetOf (intKind P w) a S n
  | .ins C dx fs => H dx = some (.own a) ∧ fs.length ≤ 1000 ∧ dx ≠ a ∧ h.get? a = some (PySem.W.instObj C dx) ∧
      ∃ mA, h.Ns1 dx mA ∧ (∀ f, RelO (fs.lookup f) (mA f)) ∧ PySem.Within mA (fs.map (·.1))
  | .own _ => ∃ o, h.get? a = some o
  | .xd fs => ∃ mA, h.Ns1 a mA ∧ ∀ f, RelO (fs.lookup f) (mA f)
  | .rng lo hi => ∃ t u v, h.get? a = some { cls := .type "range", data := .fields #[.int lo t, .int hi u, .int 1 v] }
  | .frz o u => h.get? a = some o ∧ ObjOk H h a u
  | .tbl ps => h.get? a = some { cls := .none, data := .fields ps }
  | .met f x => h.get? a = some (PySem.W.methodObj (.ref f) (.ref x))
  | .ext φ => φ h ∧ (∃ o, h.get? a = some o) ∧ ∀ h1 h2 : Heap, φ h1 → (∀ o, h1.get? a = some o → h2.get? a = some o) → φ h2
/-- the abstract heap is held -/
def HOk (H : Hp) (h : Heap) : Prop := ∀ a o, H a = some o → ObjOk P w H h a o
end

section
variable {P : Program} {w : World} {H H' : Hp} {h h' : Heap} {a : Addr} {o : HO}
theorem ObjOk.lt (x : ObjOk P w H h a o) : a < h.objs.size := by
  cases o with
  | lst xs => obtain ⟨_, _, _, _, e⟩ := x; exact Heap.lt_size e
  | tup xs => obtain ⟨_, _, _, p⟩ := x; exact p.lt
  | dK kvs => obtain ⟨_, _, _, _, o, _, _, e, _⟩ := x; exact Heap.lt_size e
  | dT kvs => obtain ⟨_, _, _, _, o, _, _, e, _⟩ := x; exact Heap.lt_size e
  | set S n => obtain ⟨o, _, _, _, e, _⟩ := x; exact Heap.lt_size e
  | ins C dx fs => obtain ⟨_, _, _, e, _⟩ := x; exact Heap.lt_size e
  | own y => obtain ⟨_, e⟩ := x; exact Heap.lt_size e
  | xd fs => obtain ⟨_, ⟨_, _, _, e, _⟩, _⟩ := x; exact Heap.lt_size e
  | rng lo hi => obtain ⟨_, _, _, e⟩ := x; exact Heap.lt_size e
  | frz ob u => obtain ⟨e, _⟩ := x; exact Heap.lt_size e
  | tbl ps => exact Heap.lt_size (show h.get? a = some _ from x)
  | met f y => exact Heap.lt_size (show h.get? a = some _ from x)
  | ext φ => obtain ⟨_, ⟨_, e⟩, _⟩ := x; exact Heap.lt_size e
theorem Paired.mapP {α β : Type} {F G : α → β → Prop} : ∀ {l₁ : List α} {l₂ : List β}, Paired F l₁ l₂ → (∀ a b, F a b → G a b) → Paired G l₁ l₂
  | _, _, .nil, _ => .nil
  | _, _, .cons r t, f => .cons (f _ _ r) (Paired.mapP t f)
theorem Paired.imp' {α β : Type} {F G : α → β → Prop} (f : ∀ a b, F a b → G a b) {l₁ : List α} {l₂ : List β} (r : Paired F l₁ l₂) : Paired G l₁ l₂ := Paired.mapP r f
/-- what an object's description leans on: its own object, its own dict, the tuples -/
theorem ObjOk.stay (x : ObjOk P w H h a o) (k : ∀ b u, (b = a ∨ H b = some (.own a)) → h.get? b = some u → h'.get? b = some u)
    (ho : ∀ b, H b = some (.own a) → H' b = some (.own a)) (ht : ∀ b xs, H b = some (.tup xs) → H' b = some (.tup xs)) : ObjOk P w H' h' a o := by
  induction o with
  | lst xs => obtain ⟨z, its, n, r, e⟩ := x; exact ⟨z, its, n, r, k _ _ (.inl rfl) e⟩
  | tup xs => obtain ⟨z, its, r, ob, e, c⟩ := x; exact ⟨z, its, r, ob, k _ _ (.inl rfl) e, c⟩
  | dK kvs => obtain ⟨z, y, vs, r, ob, es, ep, e, c⟩ := x; exact ⟨z, y, vs, r, ob, es, ep, k _ _ (.inl rfl) e, c⟩
  | dT kvs =>
    obtain ⟨z, y, xs, r, ob, es, ep, e, c⟩ := x
    exact ⟨z, y, xs, Paired.mapP r fun p q z => ⟨z.1, ht _ _ z.2.1, z.2.2⟩, ob, es, ep, k _ _ (.inl rfl) e, c⟩
  | set S n => obtain ⟨ob, es, ep, t, e, c⟩ := x; exact ⟨ob, es, ep, t, k _ _ (.inl rfl) e, c⟩
  | ins C dx fs =>
    obtain ⟨d, z, ne, e, mA, ⟨od, es, ep, e2, c⟩, r⟩ := x
    exact ⟨ho _ d, z, ne, k _ _ (.inl rfl) e, mA, ⟨od, es, ep, k _ _ (.inr d) e2, c⟩, r⟩
  | own y => obtain ⟨ob, e⟩ := x; exact ⟨ob, k _ _ (.inl rfl) e⟩
  | xd fs => obtain ⟨mA, ⟨od, es, ep, e, c⟩, r⟩ := x; exact ⟨mA, ⟨od, es, ep, k _ _ (.inl rfl) e, c⟩, r⟩
  | rng lo hi => obtain ⟨t, u, v, e⟩ := x; exact ⟨t, u, v, k _ _ (.inl rfl) e⟩
  | frz ob u ih => obtain ⟨e, q⟩ := x; exact ⟨k _ _ (.inl rfl) e, ih q⟩
  | tbl ps =>
    have e : h.get? a = some { cls := .none, data := .fields ps } := x
    show h'.get? a = some { cls := .none, data := .fields ps }
    exact k a _ (.inl rfl) e
  | met f y =>
    have e : h.get? a = some (PySem.W.methodObj (.ref f) (.ref y)) := x
    show h'.get? a = some (PySem.W.methodObj (.ref f) (.ref y))
    exact k a _ (.inl rfl) e
  | ext φ => obtain ⟨p, ⟨o, e⟩, st⟩ := x; exact ⟨st _ _ p fun o q => k _ _ (.inl rfl) q, ⟨o, k _ _ (.inl rfl) e⟩, st⟩
theorem HOk.lt (x : HOk P w H h) (e : H a = some o) : a < h.objs.size := (x a o e).lt
theorem HOk.fresh (x : HOk P w H h) (e : h.objs.size ≤ a) : H a = none := by
  cases q : H a with
  | none => rfl
  | some u => exact absurd (Nat.lt_of_lt_of_le (x.lt q) e) (Nat.lt_irrefl _)
/-- every object of the heap is kept -/
theorem HOk.kept (x : HOk P w H h) (k : ∀ b u, h.get? b = some u → h'.get? b = some u) : HOk P w H h' := fun a o e =>
  (x a o e).stay (fun b u _ q => k b u q) (fun _ q => q) fun _ _ q => q
/-- a new object is laid and tracked -/
theorem HOk.laid (x : HOk P w H h) (k : ∀ b u, h.get? b = some u → h'.get? b = some u) (hp : h.objs.size ≤ a) (new : ObjOk P w (upd H a o) h' a o) : HOk P w (upd H a o) h' := fun b u e => by
  have hn := x.fresh hp
  by_cases hb : b = a
  · subst hb; rw [upd_same] at e; cases e; exact new
  · rw [upd_ne hb] at e
    exact (x b u e).stay (fun c v _ q => k c v q) (fun c q => by rw [upd_ne (ne_of_none q hn)]; exact q) fun c xs q => by rw [upd_ne (ne_of_none q hn)]; exact q
end

/-- what may be read as u: it is u, or a known u -/
def Rd (H : Hp) (a : Addr) (u : HO) : Prop := H a = some u ∨ ∃ o, H a = some (.frz o u)
theorem Rd.of {H : Hp} {a : Addr} {u : HO} (h : H a = some u) : Rd H a u := .inl h
theorem Rd.ok {P : Program} {w : World} {H : Hp} {h : Heap} {a : Addr} {u : HO} (r : Rd H a u) (x : HOk P w H h) : ObjOk P w H h a u := by
  rcases r with r | ⟨o, r⟩
  · exact x a u r
  · obtain ⟨_, q⟩ := x a _ r
    exact q
/-- what may be written -/
def Mut : Option HO → Prop
  | some (.lst _) => True
  | some (.dK _) => True
  | some (.dT _) => True
  | some (.set _ _) => True
  | some (.ins _ _ _) => True
  | some (.ext _) => True
  | _ => False
section
variable {P : Program} {w : World} {H : Hp} {h h' : Heap} {x e : Addr} {o' : HO}
/-- the object at e is changed: x itself, or the dict of the instance x -/
theorem HOk.write (ok : HOk P w H h) (mu : Mut (H x)) (he : e = x ∨ H e = some (.own x)) (k : ∀ b u, b ≠ e → h.get? b = some u → h'.get? b = some u) (heo : ∃ u, h'.get? e = some u)
    (new : ObjOk P w (upd H x o') h' x o') : HOk P w (upd H x o') h' := fun b u q => by
  have nown : ∀ c y, H c = some (.own y) → c ≠ x := fun c y r z => by subst z; rw [r] at mu; exact mu
  have ntup : ∀ c xs, H c = some (.tup xs) → c ≠ x := fun c xs r z => by subst z; rw [r] at mu; exact mu
  by_cases hb : b = x
  · subst hb; rw [upd_same] at q; cases q; exact new
  · rw [upd_ne hb] at q
    by_cases hbe : b = e
    · have q' : H b = some (.own x) := by
        rcases he with z | z
        · exact absurd (hbe.trans z) hb
        · rw [hbe]; exact z
      rw [q] at q'; cases q'
      obtain ⟨v, hv⟩ := heo
      exact ⟨v, by rw [hbe]; exact hv⟩
    · refine (ok b u q).stay (fun c v hc r => k c v ?_ r) (fun c r => by rw [upd_ne (nown c b r)]; exact r) fun c xs r => by rw [upd_ne (ntup c xs r)]; exact r
      rcases hc with rfl | hc
      · exact hbe
      · rintro rfl
        rcases he with z | z
        · exact nown c b hc z
        · rw [hc] at z; cases z; exact hb rfl
end

/-! ### kept unless tracked; of the frames at fs (the callers') the slots may change (an exception that passes writes there); of the records at ex (iterators) nothing is said -/
structure Un (fs ex : List Addr) (H H' : Hp) (h h' : Heap) : Prop where
  keep : ∀ b o, h.get? b = some o → H b = none → b ∉ fs → b ∉ ex → h'.get? b = some o
  slot : ∀ b o, h.get? b = some o → H b = none → b ∈ fs → b ∉ ex → ∃ sl, h'.get? b = some { o with slots := sl }
  free : ∀ b o, h.get? b = some o → H b = none → b ∉ ex → H' b = none
  there : ∀ b o, h.get? b = some o → b ∉ ex → ∃ o', h'.get? b = some o'
  tups : ∀ b xs, H b = some (.tup xs) → H' b = some (.tup xs)
  frzs : ∀ b o u, H b = some (.frz o u) → H' b = some (.frz o u)
  tbls : ∀ b ps, H b = some (.tbl ps) → ∃ more, H' b = some (.tbl (ps ++ more))
section
variable {fs fs' ex ex' : List Addr} {H H1 H2 : Hp} {h h1 h2 h' : Heap} {a x e : Addr} {o : HO}
theorem Un.any (u : Un fs ex H H1 h h1) {b : Addr} {ob : Obj} (q : h.get? b = some ob) (n : H b = none) (hx : b ∉ ex) : ∃ sl, h1.get? b = some { ob with slots := sl } := by
  by_cases hb : b ∈ fs
  · exact u.slot b ob q n hb hx
  · exact ⟨ob.slots, u.keep b ob q n hb hx⟩
theorem Un.trans (a : Un fs ex H H1 h h1) (b : Un fs ex H1 H2 h1 h2) : Un fs ex H H2 h h2 where
  keep := fun c ob q n hc hx => b.keep c ob (a.keep c ob q n hc hx) (a.free c ob q n hx) hc hx
  slot := fun c ob q n hc hx => by
    obtain ⟨sl, e1⟩ := a.slot c ob q n hc hx
    obtain ⟨sl', e2⟩ := b.slot c _ e1 (a.free c ob q n hx) hc hx
    exact ⟨sl', e2⟩
  free := fun c ob q n hx => by
    obtain ⟨o', e1⟩ := a.there c ob q hx
    exact b.free c o' e1 (a.free c ob q n hx) hx
  there := fun c ob q hx => by
    obtain ⟨o', e1⟩ := a.there c ob q hx
    exact b.there c o' e1 hx
  tups := fun c xs q => b.tups c xs (a.tups c xs q)
  frzs := fun c ob xs q => b.frzs c ob xs (a.frzs c ob xs q)
  tbls := fun c ps q => by
    obtain ⟨m1, e1⟩ := a.tbls c ps q
    obtain ⟨m2, e2⟩ := b.tbls c _ e1
    exact ⟨m1 ++ m2, by rw [e2, Array.append_assoc]⟩
theorem Un.kept (k : ∀ b u, h.get? b = some u → h'.get? b = some u) : Un fs ex H H h h' :=
  ⟨fun b ob q _ _ _ => k b ob q, fun b ob q _ _ _ => ⟨ob.slots, k b ob q⟩, fun _ _ _ n _ => n, fun b ob q _ => ⟨ob, k b ob q⟩, fun _ _ q => q, fun _ _ _ q => q, fun _ ps q => ⟨#[], by rw [q]; simp⟩⟩
theorem Un.refl : Un fs ex H H h h := Un.kept fun _ _ q => q
theorem Un.laid (k : ∀ b u, h.get? b = some u → h'.get? b = some u) (hp : h.objs.size ≤ a) (hn : H a = none) : Un fs ex H (upd H a o) h h' where
  keep := fun b u q _ _ _ => k b u q
  slot := fun b u q _ _ _ => ⟨u.slots, k b u q⟩
  free := fun b u q n _ => by rw [upd_ne (Nat.ne_of_lt (Nat.lt_of_lt_of_le (Heap.lt_size q) hp))]; exact n
  there := fun b u q _ => ⟨u, k b u q⟩
  tups := fun b xs q => by rw [upd_ne (ne_of_none q hn)]; exact q
  frzs := fun b u xs q => by rw [upd_ne (ne_of_none q hn)]; exact q
  tbls := fun b ps q => ⟨#[], by rw [upd_ne (ne_of_none q hn), q]; simp⟩
theorem Un.write (mu : Mut (H x)) (he : e = x ∨ H e = some (.own x)) (k : ∀ b u, b ≠ e → h.get? b = some u → h'.get? b = some u) (heo : ∃ u, h'.get? e = some u) : Un fs ex H (upd H x o) h h' := by
  have hx : ∀ b, H b = none → b ≠ x := fun b n z => by subst z; rw [n] at mu; exact mu
  have hb : ∀ b, H b = none → b ≠ e := fun b n z => by
    subst z
    rcases he with r | r
    · exact hx b n r
    · rw [n] at r; cases r
  have hm : ∀ b u, H b = some u → ¬ Mut (some u) → b ≠ x := fun b u q nm z => by subst z; rw [q] at mu; exact nm mu
  refine ⟨fun b u q n _ _ => k b u (hb b n) q, fun b u q n _ _ => ⟨u.slots, k b u (hb b n) q⟩, fun b u q n _ => by rw [upd_ne (hx b n)]; exact n, fun b u q _ => ?_,
    fun b xs q => by rw [upd_ne (hm b _ q fun z => z)]; exact q, fun b u xs q => by rw [upd_ne (hm b _ q fun z => z)]; exact q, fun b ps q => ⟨#[], by rw [upd_ne (hm b _ q fun z => z), q]; simp⟩⟩
  by_cases hbe : b = e
  · subst hbe; exact heo
  · exact ⟨u, k b u hbe q⟩
theorem Un.mono (u : Un fs ex H H1 h h1) (hs : ∀ b ∈ fs, b ∈ fs') (hx : ∀ b ∈ ex, b ∈ ex') : Un fs' ex' H H1 h h1 :=
  ⟨fun b ob q n hb he => u.keep b ob q n (fun z => hb (hs b z)) fun z => he (hx b z), fun _ _ q n _ he => u.any q n fun z => he (hx _ z), fun b ob q n he => u.free b ob q n fun z => he (hx b z), fun b ob q he => u.there b ob q fun z => he (hx b z), u.tups, u.frzs, u.tbls⟩
end

/-! ### the heap without what is tracked -/
def trk (h : Heap) (H : Hp) : List Addr := (List.range h.objs.size).filter fun a => (H a).isSome
def hidT (h : Heap) (H : Hp) : Heap := PySem.W.hideAll h (trk h H)
theorem hidT_size (h : Heap) (H : Hp) : (hidT h H).objs.size = h.objs.size := PySem.W.hideAll_size _ _
theorem hidT_get {h : Heap} {H : Hp} {b : Addr} {o : Obj} (e : h.get? b = some o) (n : H b = none) : (hidT h H).get? b = some o :=
  PySem.W.hideAll_get _ e fun hm => by
    have q : (H b).isSome = true := (List.mem_filter.mp hm).2
    rw [n] at q; simp at q
theorem of_hidT {h : Heap} {H : Hp} {b : Addr} {o : Obj} (e : (hidT h H).get? b = some o) : h.get? b = some o ∧ H b = none := by
  have e' : h.get? b = some o := PySem.W.of_hideAll (trk h H) e
  refine ⟨e', ?_⟩
  cases q : H b with
  | none => rfl
  | some x =>
    have hm : b ∈ trk h H := List.mem_filter.mpr ⟨List.mem_range.mpr (Heap.lt_size e'), by simp [q]⟩
    have z : (hidT h H).get? b = none := PySem.W.hideAll_none (trk h H) hm
    rw [z] at e; cases e

/-! ### OpenK's ledger, filled with every new object but one -/
def allNews (g h : Heap) (L : Addr) : List (Addr × Obj) := (List.range h.objs.size).filterMap fun a => if a = L ∨ (g.get? a).isSome = true then none else (h.get? a).map fun o => (a, o)
theorem mem_allNews {g h : Heap} {L a : Addr} {o : Obj} (h1 : a ≠ L) (h2 : g.get? a = none) (h3 : h.get? a = some o) : (a, o) ∈ allNews g h L :=
  List.mem_filterMap.mpr ⟨a, List.mem_range.mpr (Heap.lt_size h3), by simp [h1, h2, h3]⟩
theorem of_mem_allNews {g h : Heap} {L : Addr} {p : Addr × Obj} (hp : p ∈ allNews g h L) : p.1 ≠ L ∧ g.get? p.1 = none ∧ h.get? p.1 = some p.2 := by
  obtain ⟨b, _, e⟩ := List.mem_filterMap.mp hp
  split at e
  · cases e
  · rename_i hn
    cases q : h.get? b with
    | none => rw [q] at e; simp at e
    | some u =>
      rw [q] at e
      simp only [Option.map_some, Option.some.injEq] at e
      subst e
      refine ⟨fun z => hn (.inl z), ?_, q⟩
      show g.get? b = none
      cases r : g.get? b with
      | none => rfl
      | some v => exact (hn (.inr (by simp [r]))).elim
def rest (g h : Heap) (L d : Addr) : List (Addr × Obj) := (allNews g h L).filter fun p => decide (p.1 ≠ d)
theorem rest_ne {g h : Heap} {L d : Addr} : ∀ p ∈ rest g h L d, p.1 ≠ d := fun p hp => of_decide_eq_true (List.mem_filter.mp hp).2
theorem mem_rest {g h : Heap} {L d a : Addr} {o : Obj} (h1 : a ≠ L) (h2 : g.get? a = none) (h3 : h.get? a = some o) (h4 : a ≠ d) : (a, o) ∈ rest g h L d :=
  List.mem_filter.mpr ⟨mem_allNews h1 h2 h3, decide_eq_true h4⟩
theorem news_all {g h : Heap} {L : Addr} : News g L h (allNews g h L) := fun p hp => let ⟨a, b, c⟩ := of_mem_allNews hp; ⟨c, a, b⟩
theorem news_at {g h : Heap} {L d : Addr} {o : Obj} (h1 : d ≠ L) (h2 : g.get? d = none) (h3 : h.get? d = some o) : News g L h ((d, o) :: rest g h L d) := fun p hp => by
  rcases List.mem_cons.mp hp with rfl | hp
  · exact ⟨h3, h1, h2⟩
  · exact news_all p (List.mem_filter.mp hp).1
/-- behind a rule that changed d alone: all else but the frame is kept -/
theorem kept_of_news {g h h' : Heap} {L d : Addr} {m : Str → Option Value} (k : ∀ b o, g.get? b = some o → h.get? b = some o) (F : Fr g L h' m) (N : News g L h' (rest g h L d)) :
    ∀ b o, b ≠ L → b ≠ d → h.get? b = some o → h'.get? b = some o := fun b o h1 h2 e => by
  cases q : g.get? b with
  | some u =>
    have := k b u q
    rw [e] at this; cases this
    exact F.keep b _ q
  | none => exact (N (b, o) (mem_rest h1 q e h2)).1
end L2

namespace L2
open PySem PySem.Spec PyProof.Rows

/-- the module's facts, over the base: the heap at the law's entry without what is tracked there -/
structure Mod (K : PySem.W.Frag) (mg : Str → Option Value) (base : Heap) : Prop where
  kin : K.In base
  glob : base.Ns mainGlobals mg
  blt : ∃ mb, base.Ns builtinsNs mb ∧ ∀ x : Str, x ≠ "__name__" → mb x = bootBuiltins x
  nolimit : base.NoLimit

/-- the context: a def's body (or a comprehension's block) running. base: fixed through the whole law; s₀, H₀: the entry; outer: the frames whose slots others may change (a def's callers); stack: all frames that run;
   ex: iterators that were made ahead of the entry and are walked here (a comprehension's); fn: the names whose cells were made at the entry (a def: all; a comprehension's block: its own); calm: not within an except suite; pn: pins that every state bears; xe: what is wanted of an exception that leaves the code -/
structure Cx where
  prog : Program
  w : World
  K : PySem.W.Frag
  mg : Str → Option Value
  base : Heap
  A : Around
  N : List Str
  s₀ : Shared
  H₀ : Hp
  env : Env
  outer : List Env
  stack : List Env
  ex : List Addr
  fn : Str → Bool
  calm : Bool
  pn : List (Addr × Obj)
  xe : Value → Shared → Prop
/-- the callers' frames -/
def frs (l : List Env) : List Addr := l.filterMap (·.frame)
abbrev Cx.fs (X : Cx) : List Addr := frs X.outer

def Vis (sc : Scope) (x : Str) : Prop := sc.names.lookup x = some .local ∨ sc.names.lookup x = some .cell ∨ sc.names.lookup x = some .free
def Loc (sc : Scope) (x : Str) : Prop := sc.names.lookup x = some .local ∨ sc.names.lookup x = some .cell
def Look (env : Env) (h : Heap) (m : Str → Option Value) (x : Str) (u : Value) : Prop :=
  (env.kindOf x = some .local ∧ m x = some u) ∨ ((env.kindOf x = some .cell ∨ env.kindOf x = some .free) ∧ ∃ c, env.cells.lookup x = some c ∧ h.IsCell c (some u))

structure Cx.Ok (X : Cx) : Prop where
  mod : Mod X.K X.mg X.base
  kind : X.env.scope.kind = .function
  glob : X.env.globals = mainGlobals
  blt : X.env.builtins = builtinsNs
  above : X.s₀.heap.objs.size ≤ X.env.locals
  inj : ∀ x y c, X.env.cells.lookup x = some c → X.env.cells.lookup y = some c → x = y
  has : ∀ x, (X.env.kindOf x = some .cell ∨ X.env.kindOf x = some .free) → ∃ c, X.env.cells.lookup x = some c
  cab : ∀ x c, X.fn x = true → X.env.cells.lookup x = some c → X.s₀.heap.objs.size ≤ c
  hd : X.calm = true → X.A.handled = none
  frames : X.A.frames = some X.stack
  stk : X.stack = X.outer ∨ (X.stack = X.env :: X.outer ∧ X.env.frame = some X.env.locals)
  exf : ∀ b ∈ X.ex, b ≠ X.env.locals ∧ ∀ x c, X.env.cells.lookup x = some c → c ≠ b
  bs : ∀ b o, X.base.get? b = some o → X.s₀.heap.get? b = some o ∧ X.H₀ b = none
  bsz : X.base.objs.size ≤ X.s₀.heap.objs.size
  noex : ∀ b o, X.base.get? b = some o → b ∉ X.ex
  exfs : ∀ b ∈ X.ex, b ∉ X.fs
  funs : X.s₀.heap.FunFrames X.base X.outer
  frf : ∀ b ∈ X.fs, X.H₀ b = none

structure Inv (X : Cx) (pins : List (Addr × Obj)) (σ : List (Option V)) (H : Hp) (s : Shared) : Prop where
  ok : X.Ok
  os : s.os = X.s₀.os
  bare : AllBare s.gens
  base : Un X.fs X.ex X.H₀ H X.s₀.heap s.heap
  loc : ∃ m, s.heap.Ns X.env.locals m ∧ ∀ (i : Nat) (x : Str) (v : V), X.N[i]? = some x → σ[i]? = some (some v) → Vis X.env.scope x → ∃ u, RelV v u ∧ Look X.env s.heap m x u
  cell : ∀ x c, X.env.cells.lookup x = some c → ∃ v, s.heap.IsCell c v
  free : H X.env.locals = none
  freeC : ∀ x c, X.env.cells.lookup x = some c → H c = none
  pin : ∀ p ∈ X.pn ++ pins, s.heap.get? p.1 = some p.2 ∧ H p.1 = none ∧ p.1 ≠ X.env.locals ∧ p.1 ∉ X.fs ∧ ∀ v, p.2.data ≠ .cell v
  hok : HOk X.prog X.w H s.heap
  len : σ.length = X.N.length

section
variable {X : Cx} {pins : List (Addr × Obj)} {σ : List (Option V)} {H H' : Hp} {s : Shared} {h' : Heap}

theorem Cx.Ok.nofr (ok : X.Ok) {b : Addr} {o : Obj} (e : X.base.get? b = some o) : b ∉ X.fs := fun hb => by
  have := (ok.funs.mem hb).1
  rw [e] at this; cases this
theorem Inv.bs (I : Inv X pins σ H s) : ∀ b o, X.base.get? b = some o → s.heap.get? b = some o ∧ H b = none := fun b o e =>
  ⟨I.base.keep b o (I.ok.bs b o e).1 (I.ok.bs b o e).2 (I.ok.nofr e) (I.ok.noex b o e), I.base.free b o (I.ok.bs b o e).1 (I.ok.bs b o e).2 (I.ok.noex b o e)⟩
theorem Inv.bk (I : Inv X pins σ H s) : ∀ b o, X.base.get? b = some o → s.heap.get? b = some o := fun b o e => (I.bs b o e).1
theorem Inv.mod (I : Inv X pins σ H s) : Mod X.K X.mg X.base := I.ok.mod
theorem Inv.kIn (I : Inv X pins σ H s) : X.K.In s.heap := I.ok.mod.kin.keeps I.bk
theorem Inv.nolimit (I : Inv X pins σ H s) : s.heap.NoLimit := I.ok.mod.nolimit.keeps I.bk
/-- the frame over the base: for OpenK's rules (K.In X.base is I.mod.kin) -/
theorem Inv.fr (I : Inv X pins σ H s) : ∃ m, Fr X.base X.env.locals s.heap m :=
  let ⟨m, hn, _⟩ := I.loc
  ⟨m, hn, I.bk, Nat.le_trans I.ok.bsz I.ok.above⟩
theorem Inv.lt (I : Inv X pins σ H s) : X.env.locals < s.heap.objs.size := let ⟨_, hn, _⟩ := I.loc; hn.lt
theorem Inv.sz (I : Inv X pins σ H s) : X.s₀.heap.objs.size ≤ s.heap.objs.size := Nat.le_trans I.ok.above (Nat.le_of_lt I.lt)
theorem Inv.nofs (I : Inv X pins σ H s) {a : Addr} (h : s.heap.objs.size ≤ a) : a ∉ X.fs := fun hb => by
  obtain ⟨_, o, ho, _⟩ := I.ok.funs.mem hb
  exact absurd (Nat.lt_of_lt_of_le (Heap.lt_size ho) (Nat.le_trans I.sz h)) (Nat.lt_irrefl _)
theorem Inv.cne (I : Inv X pins σ H s) : ∀ x c, X.env.cells.lookup x = some c → c ≠ X.env.locals := fun x c e z => by
  obtain ⟨v, o, ho, hd⟩ := I.cell x c e
  obtain ⟨m, ⟨o', es, ep, ho', hd', _⟩, _⟩ := I.loc
  rw [z, ho'] at ho; cases ho; rw [hd'] at hd; cases hd
theorem Inv.funs (I : Inv X pins σ H s) : s.heap.FunFrames X.base X.outer := by
  have all : ∀ (l : List Env), (∀ b ∈ frs l, b ∈ X.fs) → X.s₀.heap.FunFrames X.base l → s.heap.FunFrames X.base l := by
    intro l
    induction l with
    | nil => intro _ _; trivial
    | cons env r ih =>
      intro hs hl
      obtain ⟨hk, ⟨L, o, hf, hn, ho, hd⟩, hr⟩ := hl
      have hL : L ∈ X.fs := hs L (by unfold frs; rw [List.filterMap_cons, hf]; exact List.mem_cons_self)
      obtain ⟨sl, e⟩ := I.base.slot L o ho (I.ok.frf L hL) hL fun z => I.ok.exfs L z hL
      exact ⟨hk, ⟨L, _, hf, hn, e, hd⟩, ih (fun b hb => hs b (by unfold frs; rw [List.filterMap_cons, hf]; exact List.mem_cons_of_mem _ hb)) hr⟩
  exact all X.outer (fun _ hb => hb) I.ok.funs

/-- the frames that run, for a call -/
theorem Inv.stack (I : Inv X pins σ H s) : s.heap.FunFrames X.base X.stack := by
  rcases I.ok.stk with e | ⟨e, hf⟩
  · rw [e]; exact I.funs
  · rw [e]
    obtain ⟨m, hn, _⟩ := I.loc
    refine .cons (by rw [I.ok.kind]; decide) hf hn ?_ I.funs
    exact Heap.get?_none_of_le (Nat.le_trans I.ok.bsz I.ok.above)
theorem Inv.stkSub (I : Inv X pins σ H s) : ∀ b ∈ frs X.stack, b ∈ X.env.locals :: X.fs := fun b hb => by
  rcases I.ok.stk with e | ⟨e, hf⟩
  · rw [e] at hb; exact List.mem_cons_of_mem _ hb
  · rw [e] at hb
    unfold frs at hb
    rw [List.filterMap_cons, hf] at hb
    exact hb
theorem Inv.stkFree (I : Inv X pins σ H s) : ∀ b ∈ frs X.stack, H b = none := fun b hb => by
  rcases List.mem_cons.mp (I.stkSub b hb) with e | hb
  · rw [e]; exact I.free
  · obtain ⟨_, o, ho, _⟩ := I.ok.funs.mem hb
    exact I.base.free b o ho (I.ok.frf b hb) fun z => I.ok.exfs b z hb

/-- THE STEP: the untracked objects but the frame and the records at ch are kept (the callers' frames up to slots), the frame's map is kept, the new abstract heap is held -/
theorem Inv.step {g' : Array GenState} {t' : Nat} {d' : Drawn} {ch : List Addr} (I : Inv X pins σ H s)
    (hch : ∀ b ∈ ch, (b ∈ X.ex ∨ X.s₀.heap.objs.size ≤ b) ∧ b ≠ X.env.locals ∧ (∀ x c, X.env.cells.lookup x = some c → c ≠ b) ∧ ∀ p ∈ X.pn ++ pins, p.1 ≠ b)
    (keep : ∀ b o, b ≠ X.env.locals → b ∉ X.fs → b ∉ ch → s.heap.get? b = some o → H b = none → h'.get? b = some o)
    (slot : ∀ b o, b ≠ X.env.locals → b ∈ X.fs → b ∉ ch → s.heap.get? b = some o → H b = none → ∃ sl, h'.get? b = some { o with slots := sl }) (free : ∀ b o, b ∉ ch → s.heap.get? b = some o → H b = none → H' b = none)
    (there : ∀ b o, b ∉ ch → s.heap.get? b = some o → ∃ o', h'.get? b = some o')
    (tups : ∀ b xs, H b = some (.tup xs) → H' b = some (.tup xs)) (frzs : ∀ b o u, H b = some (.frz o u) → H' b = some (.frz o u)) (tbls : ∀ b ps, H b = some (.tbl ps) → ∃ more, H' b = some (.tbl (ps ++ more)))
    (ns : ∀ m, s.heap.Ns X.env.locals m → h'.Ns X.env.locals m) (hok : HOk X.prog X.w H' h') (hg : AllBare g') :
    Inv X pins σ H' { s with heap := h', gens := g', drawn := d', toks := t' } := by
  have neL : ∀ b o, X.s₀.heap.get? b = some o → b ≠ X.env.locals := fun b o e => Nat.ne_of_lt (Nat.lt_of_lt_of_le (Heap.lt_size e) I.ok.above)
  have neC : ∀ b o, X.s₀.heap.get? b = some o → b ∉ X.ex → b ∉ ch := fun b o e hx hb => by
    rcases (hch b hb).1 with z | z
    · exact hx z
    · exact absurd (Nat.lt_of_lt_of_le (Heap.lt_size e) z) (Nat.lt_irrefl _)
  have cellK : ∀ x c, X.env.cells.lookup x = some c → ∀ v, s.heap.IsCell c v → h'.IsCell c v := fun x c e v ⟨o, ho, hd⟩ => by
    have nch : c ∉ ch := fun z => (hch c z).2.2.1 x c e rfl
    by_cases hc : c ∈ X.fs
    · obtain ⟨sl, q⟩ := slot c o (I.cne x c e) hc nch ho (I.freeC x c e)
      exact ⟨_, q, hd⟩
    · exact ⟨o, keep c o (I.cne x c e) hc nch ho (I.freeC x c e), hd⟩
  refine ⟨I.ok, I.os, hg, ⟨fun b o e n hb hx => ?_, fun b o e n hb hx => ?_, fun b o e n hx => ?_, fun b o e hx => ?_, fun b xs e => tups b xs (I.base.tups b xs e), fun b o xs e => frzs b o xs (I.base.frzs b o xs e), fun b ps e => ?_⟩, ?_, fun x c e => ?_, ?_, fun x c e => ?_, fun p hp => ?_, hok, I.len⟩
  · exact keep b o (neL b o e) hb (neC b o e hx) (I.base.keep b o e n hb hx) (I.base.free b o e n hx)
  · obtain ⟨sl, e1⟩ := I.base.slot b o e n hb hx
    obtain ⟨sl', e2⟩ := slot b _ (neL b o e) hb (neC b o e hx) e1 (I.base.free b o e n hx)
    exact ⟨sl', e2⟩
  · obtain ⟨o', e1⟩ := I.base.there b o e hx
    exact free b o' (neC b o e hx) e1 (I.base.free b o e n hx)
  · obtain ⟨o', e1⟩ := I.base.there b o e hx
    exact there b o' (neC b o e hx) e1
  · obtain ⟨m1, e1⟩ := I.base.tbls b ps e
    obtain ⟨m2, e2⟩ := tbls b _ e1
    exact ⟨m1 ++ m2, by rw [e2, Array.append_assoc]⟩
  · obtain ⟨m, hn, hl⟩ := I.loc
    refine ⟨m, ns m hn, fun i x v e1 e2 e3 => ?_⟩
    obtain ⟨u, r, l⟩ := hl i x v e1 e2 e3
    refine ⟨u, r, ?_⟩
    rcases l with l | ⟨k, c, e, z⟩
    · exact .inl l
    · exact .inr ⟨k, c, e, cellK x c e _ z⟩
  · obtain ⟨v, z⟩ := I.cell x c e
    exact ⟨v, cellK x c e v z⟩
  · obtain ⟨m, ⟨o, _, _, ho, _⟩, _⟩ := I.loc
    exact free _ o (fun z => (hch _ z).2.1 rfl) ho I.free
  · obtain ⟨v, o, ho, hd⟩ := I.cell x c e
    exact free c o (fun z => (hch c z).2.2.1 x c e rfl) ho (I.freeC x c e)
  · obtain ⟨e, n, ne, nf, d⟩ := I.pin p hp
    have nch : p.1 ∉ ch := fun z => (hch p.1 z).2.2.2 p hp rfl
    exact ⟨keep p.1 p.2 ne nf nch e n, free p.1 p.2 nch e n, ne, nf, d⟩
/-- .. where the frame's own object is kept too -/
theorem Inv.un {t' : Nat} (I : Inv X pins σ H s) (u : Un X.fs [] H H' s.heap h') (hok : HOk X.prog X.w H' h') : Inv X pins σ H' { s with heap := h', toks := t' } := by
  obtain ⟨m, ⟨o, es, ep, ho, r⟩, _⟩ := id I.loc
  obtain ⟨sl, hL⟩ := u.any ho I.free (by simp)
  exact I.step (g' := s.gens) (d' := s.drawn) (ch := []) (fun _ z => nomatch z) (fun b o _ hb _ e n => u.keep b o e n hb (by simp)) (fun b o _ hb _ e n => u.slot b o e n hb (by simp)) (fun b o _ e n => u.free b o e n (by simp)) (fun b o _ e => u.there b o e (by simp)) u.tups u.frzs u.tbls (fun m' hm => by
    obtain ⟨o', es', ep', ho', r'⟩ := hm
    rw [ho] at ho'; cases ho'
    exact ⟨_, es', ep', hL, r'⟩) hok I.bare
/-- behind a call (or a comprehension's block): the slots of this frame may have changed too, the records at ch may have turned -/
theorem Inv.call {g' : Array GenState} {t' : Nat} {d' : Drawn} {ch : List Addr} (I : Inv X pins σ H s) (u : Un (frs X.stack) ch H H' s.heap h') (hok : HOk X.prog X.w H' h') (hg : AllBare g')
    (hch : ∀ b ∈ ch, (b ∈ X.ex ∨ X.s₀.heap.objs.size ≤ b) ∧ b ≠ X.env.locals ∧ (∀ x c, X.env.cells.lookup x = some c → c ≠ b) ∧ ∀ p ∈ X.pn ++ pins, p.1 ≠ b) :
    Inv X pins σ H' { s with heap := h', gens := g', drawn := d', toks := t' } := by
  obtain ⟨m, ⟨o, es, ep, ho, r⟩, _⟩ := id I.loc
  obtain ⟨sl, hL⟩ := u.any ho I.free fun z => (hch _ z).2.1 rfl
  exact I.step (ch := ch) hch (fun b o hL hb hc e n => u.keep b o e n (fun z => (List.mem_cons.mp (I.stkSub b z)).elim hL hb) hc) (fun b o _ _ hc e n => u.any e n hc) (fun b o hc e n => u.free b o e n hc) (fun b o hc e => u.there b o e hc) u.tups u.frzs u.tbls (fun m' hm => by
    obtain ⟨o', es', ep', ho', r'⟩ := hm
    rw [ho] at ho'; cases ho'
    exact ⟨_, es', ep', hL, r'⟩) hok hg
/-- an untracked record of ours (an iterator) has turned -/
theorem Inv.turned {t' : Nat} {it : Addr} (I : Inv X pins σ H s) (k : ∀ b o, b ≠ it → s.heap.get? b = some o → h'.get? b = some o) (hn : H it = none) (hL : it ≠ X.env.locals)
    (h1 : it ∈ X.ex ∨ X.s₀.heap.objs.size ≤ it) (h2 : ∀ x c, X.env.cells.lookup x = some c → c ≠ it) (h3 : ∀ p ∈ X.pn ++ pins, p.1 ≠ it) : Inv X pins σ H { s with heap := h', toks := t' } := by
  have nit : ∀ b u, H b = some u → b ≠ it := fun b u e z => by rw [z, hn] at e; cases e
  refine I.step (g' := s.gens) (d' := s.drawn) (ch := [it]) (fun b hb => ?_) (fun b o _ _ hc e _ => k b o (fun z => hc (by simp [z])) e) (fun b o _ _ hc e _ => ⟨o.slots, k b o (fun z => hc (by simp [z])) e⟩) (fun _ _ _ _ n => n)
    (fun b o hc e => ⟨o, k b o (fun z => hc (by simp [z])) e⟩) (fun _ _ e => e) (fun _ _ _ e => e) (fun b ps e => ⟨#[], by rw [e]; simp⟩) (fun m hm => ?_) (fun b u e => ?_) I.bare
  · have e : b = it := by simpa using hb
    subst e
    exact ⟨h1, hL, h2, h3⟩
  · obtain ⟨o, es, ep, ho, r⟩ := hm
    exact ⟨o, es, ep, k _ o (Ne.symm hL) ho, r⟩
  · refine (I.hok b u e).stay (fun c v hc q => k c v ?_ q) (fun _ q => q) fun _ _ q => q
    rcases hc with z | z
    · rw [z]; exact nit b u e
    · exact nit c _ z
theorem Inv.tok (I : Inv X pins σ H s) (t : Nat) : Inv X pins σ H { s with toks := t } := I.un (h' := s.heap) (t' := t) Un.refl I.hok
/-- all objects kept -/
theorem Inv.kept {t' : Nat} (I : Inv X pins σ H s) (k : ∀ b u, s.heap.get? b = some u → h'.get? b = some u) : Inv X pins σ H { s with heap := h', toks := t' } := I.un (Un.kept k) (I.hok.kept k)
/-- a new object laid and tracked -/
theorem Inv.laid {a : Addr} {o : HO} {t' : Nat} (I : Inv X pins σ H s) (k : ∀ b u, s.heap.get? b = some u → h'.get? b = some u) (hp : s.heap.objs.size ≤ a) (new : ObjOk X.prog X.w (upd H a o) h' a o) :
    Inv X pins σ (upd H a o) { s with heap := h', toks := t' } := I.un (Un.laid k hp (I.hok.fresh hp)) (I.hok.laid k hp new)
/-- an object written -/
theorem Inv.write {x e : Addr} {o : HO} {t' : Nat} (I : Inv X pins σ H s) (mu : Mut (H x)) (he : e = x ∨ H e = some (.own x)) (k : ∀ b u, b ≠ e → s.heap.get? b = some u → h'.get? b = some u) (heo : ∃ u, h'.get? e = some u)
    (new : ObjOk X.prog X.w (upd H x o) h' x o) : Inv X pins σ (upd H x o) { s with heap := h', toks := t' } := I.un (Un.write mu he k heo) (I.hok.write mu he k heo new)
/-- forgetting slots, pins -/
theorem Inv.weak {σ' : List (Option V)} (I : Inv X pins σ H s) (hl : σ'.length = σ.length) (w : ∀ (i : Nat) v, σ'[i]? = some (some v) → σ[i]? = some (some v)) : Inv X pins σ' H s :=
  ⟨I.ok, I.os, I.bare, I.base, let ⟨m, hn, hl'⟩ := I.loc; ⟨m, hn, fun i x v e1 e2 e3 => hl' i x v e1 (w i v e2) e3⟩, I.cell, I.free, I.freeC, I.pin, I.hok, hl.trans I.len⟩
theorem Inv.pins_of {pins' : List (Addr × Obj)} (I : Inv X pins σ H s) (h : ∀ p ∈ pins', s.heap.get? p.1 = some p.2 ∧ H p.1 = none ∧ p.1 ≠ X.env.locals ∧ p.1 ∉ X.fs ∧ ∀ v, p.2.data ≠ .cell v) : Inv X pins' σ H s :=
  ⟨I.ok, I.os, I.bare, I.base, I.loc, I.cell, I.free, I.freeC, fun p hp => (List.mem_append.mp hp).elim (fun z => I.pin p (List.mem_append_left _ z)) (h p), I.hok, I.len⟩

theorem nodup_ix {N : List Str} (hN : N.Nodup) {i j : Nat} {x : Str} (a : N[i]? = some x) (b : N[j]? = some x) : i = j := by
  obtain ⟨h1, e1⟩ := List.getElem?_eq_some_iff.mp a
  obtain ⟨h2, e2⟩ := List.getElem?_eq_some_iff.mp b
  exact (List.getElem_inj hN).mp (e1.trans e2.symm)

/-- a name is stored; what changed -/
theorem store_ok2 {M : Model} {A : Around} {E : Value → Shared → Prop} {i : Nat} {x : Str} {v : V} {u : Value} {Q : Unit → Shared → Prop} (I : Inv X pins σ H s) (hN : X.N.Nodup) (hi : X.N[i]? = some x) (hx : Loc X.env.scope x) (r : RelV v u)
    (h : ∀ s', Inv X pins (σ.set i (some v)) H s' → (∃ a, Heap.SameBut a s.heap s'.heap ∧ (a = X.env.locals ∨ X.env.cells.lookup x = some a)) → Q () s') (hf : X.fn x = true ∨ X.env.scope.names.lookup x = some .local := by first | exact .inl rfl | exact .inr rfl | assumption) : wpAny M A (storeName X.env x u) Q E s := by
  obtain ⟨m, hn, hl⟩ := id I.loc
  have hcls : (X.env.scope.kind == .class || (X.env.scope.kind == .module && X.env.locals != X.env.globals)) = false := by rw [I.ok.kind]; rfl
  have hiσ : i < σ.length := by rw [I.len]; exact (List.getElem?_eq_some_iff.mp hi).1
  have cne := I.cne
  have tracked : ∀ {a : Addr} {h' : Heap}, (∃ o, s.heap.get? a = some o ∧ H a = none) → Heap.SameBut a s.heap h' → HOk X.prog X.w H h' := fun {a h'} ha hs b ob e => by
    obtain ⟨_, _, hfree⟩ := ha
    refine (I.hok b ob e).stay (fun c w' hc q => (hs.2 c ?_).trans q) (fun _ q => q) fun _ _ q => q
    rintro rfl
    rcases hc with rfl | hc
    · rw [hfree] at e; cases e
    · rw [hfree] at hc; cases hc
  rcases hx with hk | hk
  · refine wpAny_storeName_local hk hn (fun h' hn' hs => ?_) hcls
    obtain ⟨oL, _, _, hoL, _⟩ := id hn
    refine h _ ⟨I.ok, I.os, I.bare, ⟨fun b o e n hb hx => ?_, fun b o e n hb hx => ?_, I.base.free, fun b o e hx => ?_, I.base.tups, I.base.frzs, I.base.tbls⟩, ⟨_, hn', fun j y v' e1 e2 e3 => ?_⟩, fun y c e => ?_, I.free, I.freeC, fun p hp => ?_, tracked ⟨oL, hoL, I.free⟩ hs, by simpa using I.len⟩ ⟨_, hs, .inl rfl⟩
    · exact (hs.2 b (Nat.ne_of_lt (Nat.lt_of_lt_of_le (Heap.lt_size e) I.ok.above))).trans (I.base.keep b o e n hb hx)
    · obtain ⟨sl, e1⟩ := I.base.slot b o e n hb hx
      exact ⟨sl, (hs.2 b (Nat.ne_of_lt (Nat.lt_of_lt_of_le (Heap.lt_size e) I.ok.above))).trans e1⟩
    · obtain ⟨o', e1⟩ := I.base.there b o e hx
      exact ⟨o', (hs.2 b (Nat.ne_of_lt (Nat.lt_of_lt_of_le (Heap.lt_size e) I.ok.above))).trans e1⟩
    · by_cases hj : j = i
      · subst hj
        rw [hi] at e1; cases e1
        rw [List.getElem?_set_self hiσ] at e2
        cases e2
        exact ⟨u, r, .inl ⟨hk, by simp⟩⟩
      · rw [List.getElem?_set_ne (Ne.symm hj)] at e2
        obtain ⟨u', r', q⟩ := hl j y v' e1 e2 e3
        refine ⟨u', r', ?_⟩
        rcases q with ⟨k, e⟩ | ⟨k, c, e, z⟩
        · refine .inl ⟨k, ?_⟩
          have : y ≠ x := fun e => hj (nodup_ix hN e1 (e ▸ hi))
          simp [this, e]
        · exact .inr ⟨k, c, e, z.sameBut hs (cne y c e)⟩
    · obtain ⟨w', z⟩ := I.cell y c e
      exact ⟨w', z.sameBut hs (cne y c e)⟩
    · obtain ⟨e, n, ne, nf, d⟩ := I.pin p hp
      exact ⟨(hs.2 p.1 ne).trans e, n, ne, nf, d⟩
  · have hfn : X.fn x = true := by
      rcases hf with z | z
      · exact z
      · rw [z] at hk; cases hk
    obtain ⟨c, hc⟩ := I.ok.has x (.inl hk)
    obtain ⟨w', z⟩ := I.cell x c hc
    refine wpAny_storeName_cell I.ok.kind hk hc z (fun h' hc' hs => ?_)
    obtain ⟨oc, hoc, hocd⟩ := id z
    refine h { s with heap := h' } ⟨I.ok, I.os, I.bare, ⟨fun b o e n hb hx => ?_, fun b o e n hb hx => ?_, I.base.free, fun b o e hx => ?_, I.base.tups, I.base.frzs, I.base.tbls⟩, ⟨m, hn.sameBut hs (Ne.symm (cne x c hc)), fun j y v' e1 e2 e3 => ?_⟩, fun y c' e => ?_, I.free, I.freeC, fun p hp => ?_, tracked ⟨oc, hoc, I.freeC x c hc⟩ hs, by simpa using I.len⟩ ⟨c, hs, .inr hc⟩
    · exact (hs.2 b (Nat.ne_of_lt (Nat.lt_of_lt_of_le (Heap.lt_size e) (I.ok.cab x c hfn hc)))).trans (I.base.keep b o e n hb hx)
    · obtain ⟨sl, e1⟩ := I.base.slot b o e n hb hx
      exact ⟨sl, (hs.2 b (Nat.ne_of_lt (Nat.lt_of_lt_of_le (Heap.lt_size e) (I.ok.cab x c hfn hc)))).trans e1⟩
    · obtain ⟨o', e1⟩ := I.base.there b o e hx
      exact ⟨o', (hs.2 b (Nat.ne_of_lt (Nat.lt_of_lt_of_le (Heap.lt_size e) (I.ok.cab x c hfn hc)))).trans e1⟩
    · by_cases hj : j = i
      · subst hj
        rw [hi] at e1; cases e1
        rw [List.getElem?_set_self hiσ] at e2
        cases e2
        exact ⟨u, r, .inr ⟨.inl hk, c, hc, hc'⟩⟩
      · rw [List.getElem?_set_ne (Ne.symm hj)] at e2
        obtain ⟨u', r', q⟩ := hl j y v' e1 e2 e3
        refine ⟨u', r', ?_⟩
        rcases q with q | ⟨k, c', e, z'⟩
        · exact .inl q
        · refine .inr ⟨k, c', e, z'.sameBut hs ?_⟩
          rintro rfl
          exact hj (nodup_ix hN e1 (I.ok.inj _ _ _ e hc ▸ hi))
    · by_cases hcc : c' = c
      · subst hcc; exact ⟨_, hc'⟩
      · obtain ⟨w2, z2⟩ := I.cell y c' e
        exact ⟨w2, z2.sameBut hs hcc⟩
    · obtain ⟨e, n, ne, nf, d⟩ := I.pin p hp
      refine ⟨(hs.2 p.1 ?_).trans e, n, ne, nf, d⟩
      intro q
      rw [q, hoc] at e
      have q' : oc = p.2 := Option.some.inj e
      exact d w' (by rw [← q']; exact hocd)
theorem store_ok {M : Model} {A : Around} {E : Value → Shared → Prop} {i : Nat} {x : Str} {v : V} {u : Value} {Q : Unit → Shared → Prop} (I : Inv X pins σ H s) (hN : X.N.Nodup) (hi : X.N[i]? = some x) (hx : Loc X.env.scope x) (r : RelV v u)
    (h : ∀ s', Inv X pins (σ.set i (some v)) H s' → Q () s') (hf : X.fn x = true ∨ X.env.scope.names.lookup x = some .local := by first | exact .inl rfl | exact .inr rfl | assumption) : wpAny M A (storeName X.env x u) Q E s :=
  store_ok2 I hN hi hx r (fun s' I' _ => h s' I') hf
/-- behind a call or a block, the state as it is -/
theorem Inv.call' {s' : Shared} {ch : List Addr} (I : Inv X pins σ H s) (ho : s'.os = s.os) (u : Un (frs X.stack) ch H H' s.heap s'.heap) (hok : HOk X.prog X.w H' s'.heap) (hg : AllBare s'.gens)
    (hch : ∀ b ∈ ch, (b ∈ X.ex ∨ X.s₀.heap.objs.size ≤ b) ∧ b ≠ X.env.locals ∧ (∀ x c, X.env.cells.lookup x = some c → c ≠ b) ∧ ∀ p ∈ X.pn ++ pins, p.1 ≠ b) : Inv X pins σ H' s' := by
  obtain ⟨h', g', d', t', o'⟩ := s'
  have e : o' = s.os := ho
  subst e
  exact I.call (g' := g') (t' := t') (d' := d') u hok hg hch
end

/-! ### the judgements -/
/-- an exception: its class, its own dict's address (where it has one), the abstract heap behind it -/
abbrev XK := Value → Option Addr → Hp → Prop
abbrev St := List (Option V)
abbrev VK := V → Hp → Prop
/-- an expression's reading; a test's; an argument list's -/
abbrev TE := St → Hp → VK → Prop
abbrev TT := St → Hp → (Bool → Hp → Prop) → Prop
abbrev TA := St → Hp → (List V → Hp → Prop) → Prop
/-- what is wanted behind a statement -/
structure Ends where
  nx : St → Hp → Prop
  rt : VK
  bk : St → Hp → Prop := fun _ _ => False
  ct : St → Hp → Prop := fun _ _ => False
abbrev TS := Ends → St → Hp → Prop

def EP (X : Cx) (pins : List (Addr × Obj)) (σ : St) (Q : VK) (u : Value) (s' : Shared) : Prop := ∃ v H', Inv X pins σ H' s' ∧ RelV v u ∧ Q v H'
def TP (X : Cx) (pins : List (Addr × Obj)) (σ : St) (Q : Bool → Hp → Prop) (b : Bool) (s' : Shared) : Prop := ∃ H', Inv X pins σ H' s' ∧ Q b H'
def AP (X : Cx) (pins : List (Addr × Obj)) (σ : St) (Q : List V → Hp → Prop) (us : List Value) (s' : Shared) : Prop := ∃ vs H', Inv X pins σ H' s' ∧ Vals vs us ∧ Q vs H'
def SP (X : Cx) (pins : List (Addr × Obj)) (D : Ends) (f : Flow) (s' : Shared) : Prop :=
  match f with
  | .next => ∃ σ' H', Inv X pins σ' H' s' ∧ D.nx σ' H'
  | .brk => ∃ σ' H', Inv X pins σ' H' s' ∧ D.bk σ' H'
  | .cont => ∃ σ' H', Inv X pins σ' H' s' ∧ D.ct σ' H'
  | .ret u => ∃ v σ' H', Inv X pins σ' H' s' ∧ RelV v u ∧ D.rt v H'

def PE (X : Cx) (e : Expr) (t : TE) : Prop :=
  ∀ (pins : List (Addr × Obj)) (s : Shared) (σ : St) (H : Hp) (Q : VK), Inv X pins σ H s → t σ H Q → wpAny (model X.prog X.w) X.A (eval e X.env) (EP X pins σ Q) X.xe s
def PT (X : Cx) (e : Expr) (t : TT) : Prop :=
  ∀ (pins : List (Addr × Obj)) (s : Shared) (σ : St) (H : Hp) (Q : Bool → Hp → Prop), Inv X pins σ H s → t σ H Q → wpAny (model X.prog X.w) X.A (isTrue e X.env (eval e X.env)) (TP X pins σ Q) X.xe s
/-- a test whatever its 'whole' is (and, or) -/
def PW (X : Cx) (e : Expr) (t : TT) : Prop :=
  ∀ (whole : Sem Value) (pins : List (Addr × Obj)) (s : Shared) (σ : St) (H : Hp) (Q : Bool → Hp → Prop), Inv X pins σ H s → t σ H Q → wpAny (model X.prog X.w) X.A (isTrue e X.env whole) (TP X pins σ Q) X.xe s
theorem PW.pt {X : Cx} {e : Expr} {t : TT} (h : PW X e t) : PT X e t := h _
/-- an argument list (no star), from the left -/
def PA (X : Cx) (es : List Expr) (t : TA) : Prop :=
  ∀ (pos : Pos) (pins : List (Addr × Obj)) (s : Shared) (σ : St) (H : Hp) (Q : List V → Hp → Prop), Inv X pins σ H s → t σ H Q → wpAny (model X.prog X.w) X.A (spliced (backTo pos (starEach es X.env))) (AP X pins σ Q) X.xe s
def PS (X : Cx) (st : Stmt) (t : TS) : Prop :=
  ∀ (pins : List (Addr × Obj)) (s : Shared) (σ : St) (H : Hp) (D : Ends), Inv X pins σ H s → t D σ H → wpAny (model X.prog X.w) X.A (exec st X.env) (SP X pins D) X.xe s
def PSs (X : Cx) (st : List Stmt) (t : TS) : Prop :=
  ∀ (pins : List (Addr × Obj)) (s : Shared) (σ : St) (H : Hp) (D : Ends), Inv X pins σ H s → t D σ H → wpAny (model X.prog X.w) X.A (execs st X.env) (SP X pins D) X.xe s
/-- weaken the end -/
theorem thn {α : Type} {t : Sem α} {Q Q' : α → Shared → Prop} {M : Model} {A : Around} {E : Value → Shared → Prop} {s : Shared} (h : wpAny M A t Q E s) (hQ : ∀ a s, Q a s → Q' a s) : wpAny M A t Q' E s := wpAny_mono h hQ fun _ _ x => x
end L2

namespace L2
open PySem PySem.Spec PyProof.Rows
section
variable {X : Cx}

/-- two expressions in a row -/
theorem bin {a b : Expr} {ta tb : TE} (ha : PE X a ta) (hb : PE X b tb) {pins : List (Addr × Obj)} {s : Shared} {σ : St} {H : Hp} {R : V → V → Hp → Prop} (I : Inv X pins σ H s) (h : ta σ H fun x H1 => tb σ H1 fun y H2 => R x y H2)
    {α : Type} {Q : α → Shared → Prop} {f : Value → Value → Sem α}
    (hf : ∀ v u s2 x y H2, Inv X pins σ H2 s2 → RelV x v → RelV y u → R x y H2 → wpAny (model X.prog X.w) X.A (f v u) Q X.xe s2) :
    wpAny (model X.prog X.w) X.A (eval a X.env) (fun v s₁ => wpAny (model X.prog X.w) X.A (eval b X.env) (fun u s₂ => wpAny (model X.prog X.w) X.A (f v u) Q X.xe s₂) X.xe s₁) X.xe s := by
  refine thn (ha pins s σ H _ I h) fun v s1 ⟨x, H1, I1, r1, q1⟩ => ?_
  refine thn (hb pins s1 σ H1 _ I1 q1) fun u s2 ⟨y, H2, I2, r2, q2⟩ => ?_
  exact hf v u s2 x y H2 I2 r1 r2 q2

/-! ### names and constants -/
def tVar (i : Nat) : TE := fun σ H Q => ∃ v, σ[i]? = some (some v) ∧ Q v H
def tC (v : V) : TE := fun _ H Q => Q v H
theorem pe_var {i : Nat} {x : Str} {pos : Pos} (hN : X.N[i]? = some x) (hv : Vis X.env.scope x) (hd : (x == ("__debug__" : Str)) = false := by decide) (hcd : (x == ("__classdict__" : Str)) = false := by decide) : PE X (.Name x pos) (tVar i) := by
  intro pins s σ H Q I h
  obtain ⟨v, e, h⟩ := h
  obtain ⟨m, hn, hl⟩ := I.loc
  obtain ⟨u, r, l⟩ := hl i x v hN e hv
  have fin : EP X pins σ Q u s := ⟨v, H, I, r, h⟩
  rcases l with ⟨hk, hm⟩ | ⟨hk, c, hc, hcell⟩
  · exact wpAny_Name (wpAny_loadName_local I.ok.kind hk hn hm fin) hd
  · rcases hk with hk | hk
    · exact wpAny_Name (wpAny_loadName_cell I.ok.kind hk hc hcell fin) hd
    · exact wpAny_Name (wpAny_loadName_free I.ok.kind hk hc hcell fin hcd) hd
theorem pe_int {i j pos} : PE X (.Constant (.int i) j pos) (tC (.int i)) := fun _ _ _ H _ I h => wpAny_Constant_int ⟨.int i, H, I.tok _, ⟨_, rfl⟩, h⟩
theorem pe_bl {b j pos} : PE X (.Constant (.bool b) j pos) (tC (.bl b)) := fun _ _ _ H _ I h => Constant_bool ⟨.bl b, H, I, rfl, h⟩
theorem pe_non {j pos} : PE X (.Constant .none j pos) (tC .non) := fun _ _ _ H _ I h => Constant_none ⟨.non, H, I, rfl, h⟩
theorem pe_str {x j pos} : PE X (.Constant (.str x) j pos) (tC (.str x)) := fun _ _ _ H _ I h => Calls.Constant_str ⟨.str x, H, I.tok _, ⟨_, rfl⟩, h⟩

/-- a global name of the def -/
def Gl (X : Cx) (x : Str) : Prop := X.env.kindOf x = some .globalImplicit
theorem ld_glob {E : Value → Shared → Prop} {pins : List (Addr × Obj)} {s : Shared} {σ : St} {H : Hp} {x : Str} {u : Value} {pos : Pos} {Q : Value → Shared → Prop} (I : Inv X pins σ H s) (hg : Gl X x) (hm : X.mg x = some u) (h : Q u s)
    (hd : (x == ("__debug__" : Str)) = false := by decide) : wpAny (model X.prog X.w) X.A (eval (.Name x pos) X.env) Q E s :=
  Calls.Name_function_global I.ok.kind hg (Calls.loadGlobal_global (by rw [I.ok.glob]; exact I.mod.glob.keeps I.bk) hm h) hd
theorem ld_blt {E : Value → Shared → Prop} {pins : List (Addr × Obj)} {s : Shared} {σ : St} {H : Hp} {x : Str} {u : Value} {pos : Pos} {Q : Value → Shared → Prop} (I : Inv X pins σ H s) (hg : Gl X x) (hm : X.mg x = none) (hv : bootBuiltins x = some u) (h : Q u s)
    (hn : x ≠ "__name__" := by decide) (hd : (x == ("__debug__" : Str)) = false := by decide) : wpAny (model X.prog X.w) X.A (eval (.Name x pos) X.env) Q E s := by
  obtain ⟨mb, h1, h2⟩ := I.mod.blt
  exact Calls.Name_function_global I.ok.kind hg (Calls.loadGlobal_builtin (by rw [I.ok.glob]; exact I.mod.glob.keeps I.bk) hm (by rw [I.ok.blt]; exact h1.keeps I.bk) ((h2 x hn).trans hv) h) hd
/-- a module's constant, a class, a function, as a value -/
theorem pe_glob {x : Str} {v : V} {u : Value} {pos : Pos} (hg : Gl X x) (hm : X.mg x = some u) (r : RelV v u) (hd : (x == ("__debug__" : Str)) = false := by decide) : PE X (.Name x pos) (tC v) :=
  fun _ _ _ H _ I h => ld_glob I hg hm ⟨v, H, I, r, h⟩ hd
theorem pe_bltn {x : Str} {v : V} {u : Value} {pos : Pos} (hg : Gl X x) (hm : X.mg x = none) (hv : bootBuiltins x = some u) (r : RelV v u) (hn : x ≠ "__name__" := by decide) (hd : (x == ("__debug__" : Str)) = false := by decide) : PE X (.Name x pos) (tC v) :=
  fun _ _ _ H _ I h => ld_blt I hg hm hv ⟨v, H, I, r, h⟩ hn hd

/-! ### arithmetic -/
/-- two ints -/
def t2I (ta tb : TE) (k : Int → Int → Hp → Prop) : St → Hp → Prop := fun σ H => ta σ H fun x H1 => tb σ H1 fun y H2 => ∃ i j, x = .int i ∧ y = .int j ∧ k i j H2
def tAdd (ta tb : TE) : TE := fun σ H Q => t2I ta tb (fun i j H2 => Q (.int (i + j)) H2) σ H
def tSub (ta tb : TE) : TE := fun σ H Q => t2I ta tb (fun i j H2 => Q (.int (i - j)) H2) σ H
/-- the left factor below 2^64 -/
def tMul (ta tb : TE) : TE := fun σ H Q => t2I ta tb (fun i j H2 => (-(2 ^ 64) < i ∧ i < 2 ^ 64) ∧ Q (.int (i * j)) H2) σ H
variable {a b : Expr} {ta tb : TE} {pos : Pos}
theorem pe_add (ha : PE X a ta) (hb : PE X b tb) : PE X (.BinOp a .Add b pos) (tAdd ta tb) := by
  intro pins s σ H Q I h
  refine wpAny_BinOp (bin ha hb I h fun v u s2 x y H2 I2 rx ry q => ?_)
  obtain ⟨i, j, rfl, rfl, q⟩ := q
  obtain ⟨t, rfl⟩ := rx
  obtain ⟨t', rfl⟩ := ry
  exact add_int ⟨.int _, H2, I2.tok _, ⟨_, rfl⟩, q⟩
theorem pe_sub (ha : PE X a ta) (hb : PE X b tb) : PE X (.BinOp a .Sub b pos) (tSub ta tb) := by
  intro pins s σ H Q I h
  refine wpAny_BinOp (bin ha hb I h fun v u s2 x y H2 I2 rx ry q => ?_)
  obtain ⟨i, j, rfl, rfl, q⟩ := q
  obtain ⟨t, rfl⟩ := rx
  obtain ⟨t', rfl⟩ := ry
  exact sub_int ⟨.int _, H2, I2.tok _, ⟨_, rfl⟩, q⟩
theorem pe_mul (ha : PE X a ta) (hb : PE X b tb) : PE X (.BinOp a .Mult b pos) (tMul ta tb) := by
  intro pins s σ H Q I h
  refine wpAny_BinOp (bin ha hb I h fun v u s2 x y H2 I2 rx ry q => ?_)
  obtain ⟨i, j, rfl, rfl, ⟨q1, q2⟩, q⟩ := q
  obtain ⟨t, rfl⟩ := rx
  obtain ⟨t', rfl⟩ := ry
  exact mul_int ⟨.int _, H2, I2.tok _, ⟨_, rfl⟩, q⟩ (.of_left (intBits_le_64 q1 q2))

/-! ### comparisons -/
def PC (X : Cx) (op : CmpOp) (a b : Expr) (t : TE) : Prop :=
  ∀ (pins : List (Addr × Obj)) (s : Shared) (σ : St) (H : Hp) (Q : VK), Inv X pins σ H s → t σ H Q →
    wpAny (model X.prog X.w) X.A (eval a X.env) (fun v s₁ => wpAny (model X.prog X.w) X.A (eval b X.env) (fun u s₂ => wpAny (model X.prog X.w) X.A (compareOp op v u) (EP X pins σ Q) X.xe s₂) X.xe s₁) X.xe s
theorem nobehind (b : Expr) {op : CmpOp} (h : op ≠ .In) (h2 : op ≠ .NotIn) : behindInMarks op b = false := by
  have e1 : (op == CmpOp.In) = false := by cases op <;> first | rfl | exact absurd rfl h
  have e2 : (op == CmpOp.NotIn) = false := by cases op <;> first | rfl | exact absurd rfl h2
  cases b <;> simp [behindInMarks, e1, e2]
def tCmp (p : Int → Int → Bool) (ta tb : TE) : TE := fun σ H Q => t2I ta tb (fun i j H2 => Q (.bl (p i j)) H2) σ H
abbrev tLt : TE → TE → TE := tCmp fun i j => decide (i < j)
abbrev tLe : TE → TE → TE := tCmp fun i j => decide (i ≤ j)
abbrev tGt : TE → TE → TE := tCmp fun i j => decide (j < i)
abbrev tGe : TE → TE → TE := tCmp fun i j => decide (j ≤ i)
abbrev tEqI : TE → TE → TE := tCmp fun i j => decide (i = j)
abbrev tNeI : TE → TE → TE := tCmp fun i j => !decide (i = j)
/-- a comparison of two ints, by its rule -/
theorem pc_int {op : CmpOp} {p : Int → Int → Bool} (ha : PE X a ta) (hb : PE X b tb)
    (rule : ∀ (i j : Int) (t u : Tok) (Q : Value → Shared → Prop) (s : Shared), Q (.bool (p i j)) s → wpAny (model X.prog X.w) X.A (compareOp op (.int i t) (.int j u)) Q X.xe s) : PC X op a b (tCmp p ta tb) := by
  intro pins s σ H Q I h
  refine bin ha hb I h fun v u s2 x y H2 I2 rx ry q => ?_
  obtain ⟨i, j, rfl, rfl, q⟩ := q
  obtain ⟨t, rfl⟩ := rx
  obtain ⟨t', rfl⟩ := ry
  exact rule i j t t' _ s2 ⟨.bl _, H2, I2, rfl, q⟩
theorem pc_lt (ha : PE X a ta) (hb : PE X b tb) : PC X .Lt a b (tLt ta tb) := pc_int ha hb fun _ _ _ _ _ _ h => lt_int h
theorem pc_le (ha : PE X a ta) (hb : PE X b tb) : PC X .LtE a b (tLe ta tb) := pc_int ha hb fun _ _ _ _ _ _ h => le_int h
theorem pc_gt (ha : PE X a ta) (hb : PE X b tb) : PC X .Gt a b (tGt ta tb) := pc_int ha hb fun _ _ _ _ _ _ h => gt_int h
theorem pc_ge (ha : PE X a ta) (hb : PE X b tb) : PC X .GtE a b (tGe ta tb) := pc_int ha hb fun _ _ _ _ _ _ h => ge_int h
theorem pc_eqI (ha : PE X a ta) (hb : PE X b tb) : PC X .Eq a b (tEqI ta tb) := pc_int ha hb fun _ _ _ _ _ _ h => eq_int (by rw [Bool.beq_eq_decide_eq]; exact h)
theorem pc_neI (ha : PE X a ta) (hb : PE X b tb) : PC X .NotEq a b (tNeI ta tb) := pc_int ha hb fun _ _ _ _ _ _ h => ne_int (by rw [bne, Bool.beq_eq_decide_eq]; exact h)
/-- is None -/
def tIsN (ta : TE) : TE := fun σ H Q => ta σ H fun x H1 => Q (.bl (decide (x = .non))) H1
def tNotN (ta : TE) : TE := fun σ H Q => ta σ H fun x H1 => Q (.bl (!decide (x = .non))) H1
theorem RelV.none_iff {x : V} {v : Value} (r : RelV x v) : (v == Value.none) = decide (x = .non) := by
  cases x with
  | non => cases r; rfl
  | bl _ => cases r; rfl
  | int _ => obtain ⟨t, rfl⟩ := r; rfl
  | str _ => obtain ⟨t, rfl⟩ := r; rfl
  | byt _ => obtain ⟨t, rfl⟩ := r; rfl
  | flt _ => obtain ⟨t, rfl⟩ := r; rfl
  | ref _ => cases r; rfl
  | ty _ => cases r; rfl
theorem pc_isN {j pos'} (ha : PE X a ta) : PC X .Is a (.Constant .none j pos') (tIsN ta) := by
  intro pins s σ H Q I h
  refine thn (ha pins s σ H _ I h) fun v s1 ⟨x, H1, I1, r1, q1⟩ => ?_
  exact Constant_none (is_none_gen ⟨.bl _, H1, I1, by rw [r1.none_iff]; rfl, q1⟩)
theorem pc_notN {j pos'} (ha : PE X a ta) : PC X .IsNot a (.Constant .none j pos') (tNotN ta) := by
  intro pins s σ H Q I h
  refine thn (ha pins s σ H _ I h) fun v s1 ⟨x, H1, I1, r1, q1⟩ => ?_
  exact Constant_none (isnot_none_gen ⟨.bl _, H1, I1, by rw [r1.none_iff]; rfl, q1⟩)
/-- a comparison as a value, as a test -/
def tB (t : TE) : TT := fun σ H Q => t σ H fun x H1 => ∃ c, x = .bl c ∧ Q c H1
theorem pe_cmp {op : CmpOp} {t : TE} (h : PC X op a b t) (h1 : behindInMarks op b = false := by first | exact nobehind _ (by decide) (by decide) | rfl) : PE X (.Compare a [op] [b] pos) t := fun pins s σ H Q I hw => wpAny_Compare1 (h pins s σ H Q I hw) h1
theorem pt_cmp {op : CmpOp} {t : TE} (h : PC X op a b t) (h1 : behindInMarks op b = false := by first | exact nobehind _ (by decide) (by decide) | rfl) : PT X (.Compare a [op] [b] pos) (tB t) := by
  intro pins s σ H Q I hw
  refine wpAny_isTrue_Compare1 (thn (h pins s σ H _ I hw) fun v s1 h1 => thn h1 fun u s2 h2 => thn h2 fun c s3 ⟨x, H1, I1, r1, q1⟩ => ?_) h1
  obtain ⟨d, rfl, q⟩ := q1
  cases r1
  exact wpAny_truthy_bool ⟨H1, I1, q⟩
/-- an expression whose value is a bool, as a test -/
theorem pt_val {e : Expr} {t : TE} (h : PE X e t) (he : ∀ whole, isTrue e X.env whole = (do let v ← whole; standAt e.pos; holding [v] (truthy v)) := by intro _; rfl) : PT X e (tB t) := by
  intro pins s σ H Q I hw
  refine isTrue_plain (thn (h pins s σ H _ I hw) fun v s1 ⟨x, H1, I1, r1, q1⟩ => ?_) (he _)
  obtain ⟨d, rfl, q⟩ := q1
  cases r1
  exact wpAny_truthy_bool ⟨H1, I1, q⟩

/-! ### and, or, not -/
variable {tA tB' : TT} {rest : List Expr}
def tAnd (t u : TT) : TT := fun σ H Q => t σ H fun c H1 => if c = true then u σ H1 Q else Q false H1
def tOr (t u : TT) : TT := fun σ H Q => t σ H fun c H1 => if c = true then Q true H1 else u σ H1 Q
def tNot (t : TT) : TT := fun σ H Q => t σ H fun c H1 => Q (!c) H1
theorem pw_and1 (ha : PT X a tA) : PW X (.BoolOp .And [a] pos) tA := by
  intro wh pins s σ H Q I h
  refine isTrue_and (thn (ha pins s σ H Q I h) fun c s1 e => ?_)
  cases c with
  | true => exact isTrue_and_nil e
  | false => exact e
theorem pw_or1 (ha : PT X a tA) : PW X (.BoolOp .Or [a] pos) tA := by
  intro wh pins s σ H Q I h
  refine isTrue_or (thn (ha pins s σ H Q I h) fun c s1 e => ?_)
  cases c with
  | false => exact isTrue_or_nil e
  | true => exact e
theorem pw_and (ha : PT X a tA) (hb : PW X (.BoolOp .And (b :: rest) pos) tB') : PW X (.BoolOp .And (a :: b :: rest) pos) (tAnd tA tB') := by
  intro wh pins s σ H Q I h
  refine isTrue_and (thn (ha pins s σ H _ I h) fun c s1 ⟨H1, I1, q1⟩ => ?_)
  cases c with
  | true => exact hb wh pins s1 σ H1 Q I1 q1
  | false => exact ⟨H1, I1, q1⟩
theorem pw_or (ha : PT X a tA) (hb : PW X (.BoolOp .Or (b :: rest) pos) tB') : PW X (.BoolOp .Or (a :: b :: rest) pos) (tOr tA tB') := by
  intro wh pins s σ H Q I h
  refine isTrue_or (thn (ha pins s σ H _ I h) fun c s1 ⟨H1, I1, q1⟩ => ?_)
  cases c with
  | true => exact ⟨H1, I1, q1⟩
  | false => exact hb wh pins s1 σ H1 Q I1 q1
theorem pt_not (ha : PT X a tA) : PT X (.UnaryOp .Not a pos) (tNot tA) := by
  intro pins s σ H Q I h
  exact isTrue_not (ha pins s σ H (fun c H1 => Q (!c) H1) I h)
/-- .. as values (bools) -/
def tAndV (ta tb : TE) : TE := fun σ H Q => ta σ H fun x H1 => ∃ c, x = .bl c ∧ if c = true then tb σ H1 Q else Q (.bl false) H1
def tOrV (ta tb : TE) : TE := fun σ H Q => ta σ H fun x H1 => ∃ c, x = .bl c ∧ if c = true then Q (.bl true) H1 else tb σ H1 Q
def tNotV (ta : TE) : TE := fun σ H Q => ta σ H fun x H1 => ∃ c, x = .bl c ∧ Q (.bl (!c)) H1
theorem pe_one {op} {t : TE} (h : PE X a t) : PE X (.BoolOp op [a] pos) t := fun pins s σ H Q I hw => BoolOp_one (h pins s σ H Q I hw)
theorem pe_and (ha : PE X a ta) (hb : PE X (.BoolOp .And (b :: rest) pos) tb) : PE X (.BoolOp .And (a :: b :: rest) pos) (tAndV ta tb) := by
  intro pins s σ H Q I h
  refine BoolOp_and (thn (ha pins s σ H _ I h) fun v s1 ⟨x, H1, I1, r1, q1⟩ => ?_)
  obtain ⟨c, rfl, q1⟩ := q1
  cases r1
  refine wpAny_truthy_bool ?_
  cases c with
  | true => exact hb pins s1 σ H1 Q I1 q1
  | false => exact ⟨.bl false, H1, I1, rfl, q1⟩
theorem pe_or (ha : PE X a ta) (hb : PE X (.BoolOp .Or (b :: rest) pos) tb) : PE X (.BoolOp .Or (a :: b :: rest) pos) (tOrV ta tb) := by
  intro pins s σ H Q I h
  refine BoolOp_or (thn (ha pins s σ H _ I h) fun v s1 ⟨x, H1, I1, r1, q1⟩ => ?_)
  obtain ⟨c, rfl, q1⟩ := q1
  cases r1
  refine wpAny_truthy_bool ?_
  cases c with
  | false => exact hb pins s1 σ H1 Q I1 q1
  | true => exact ⟨.bl true, H1, I1, rfl, q1⟩
theorem pe_not (ha : PE X a ta) : PE X (.UnaryOp .Not a pos) (tNotV ta) := by
  intro pins s σ H Q I h
  refine UnaryOp_ (thn (ha pins s σ H _ I h) fun v s1 ⟨x, H1, I1, r1, q1⟩ => ?_)
  obtain ⟨c, rfl, q1⟩ := q1
  cases r1
  exact not_of (wpAny_truthy_bool ⟨.bl (!c), H1, I1, rfl, q1⟩)
/-- a if t else b -/
def tIf (t : TT) (ta tb : TE) : TE := fun σ H Q => t σ H fun c H1 => if c = true then ta σ H1 Q else tb σ H1 Q
theorem pe_ifExp {c : Expr} (hc : PT X c tA) (ha : PE X a ta) (hb : PE X b tb) : PE X (.IfExp c a b pos) (tIf tA ta tb) := by
  intro pins s σ H Q I h
  refine wpAny_IfExp (thn (hc pins s σ H _ I h) fun d s1 ⟨H1, I1, q1⟩ => ?_)
  cases d with
  | true => exact ha pins s1 σ H1 Q I1 q1
  | false => exact hb pins s1 σ H1 Q I1 q1
end
end L2

namespace L2
open PySem PySem.Spec PyProof.Rows

/-! ### a list, a tuple that is read: tracked, frozen, or an object of the module -/
def SqL (K : PySem.W.Frag) (H : Hp) (a : Addr) (xs : List V) : Prop :=
  Rd H a (.lst xs) ∨
    ∃ (o : Obj) (its : Array Value) (n : Nat), K.lookup a = some o ∧ o.cls = .type "list" ∧ o.dict = none ∧ o.data = .seq its n ∧ its.size ≤ sizeLine ∧ Vals xs its.toList
def SqT (K : PySem.W.Frag) (H : Hp) (a : Addr) (xs : List V) : Prop :=
  Rd H a (.tup xs) ∨
    ∃ (o : Obj) (its : Array Value) (n : Nat), K.lookup a = some o ∧ o.cls = .type "tuple" ∧ o.data = .seq its n ∧ its.size ≤ sizeLine ∧ Vals xs its.toList
def absV : Value → Option V
  | .none => some .non
  | .bool b => some (.bl b)
  | .int i _ => some (.int i)
  | .str x _ => some (.str x)
  | .bytes b _ => some (.byt b)
  | .float b _ => some (.flt b)
  | .ref a => some (.ref a)
  | .type n => some (.ty n)
  | _ => none
theorem RelV.abs {x : V} {u : Value} (r : RelV x u) : absV u = some x := by
  cases x with
  | non => cases r; rfl
  | bl _ => cases r; rfl
  | int _ => obtain ⟨t, rfl⟩ := r; rfl
  | str _ => obtain ⟨t, rfl⟩ := r; rfl
  | byt _ => obtain ⟨t, rfl⟩ := r; rfl
  | flt _ => obtain ⟨t, rfl⟩ := r; rfl
  | ref _ => cases r; rfl
  | ty _ => cases r; rfl
theorem RelV.inj {x y : V} {u : Value} (r : RelV x u) (q : RelV y u) : x = y := Option.some.inj (r.abs.symm.trans q.abs)
theorem Vals.inj : ∀ {xs ys : List V} {us : List Value}, Vals xs us → Vals ys us → xs = ys
  | _, _, _, .nil, .nil => rfl
  | _, _, _, .cons r t, .cons r' t' => by rw [r.inj r', Vals.inj t t']
section
variable {X : Cx} {pins : List (Addr × Obj)} {σ : St} {H : Hp} {s : Shared} {a : Addr} {xs ys : List V}
theorem SqL.of {K : PySem.W.Frag} (h : H a = some (.lst xs)) : SqL K H a xs := .inl (.inl h)
theorem SqT.of {K : PySem.W.Frag} (h : H a = some (.tup xs)) : SqT K H a xs := .inl (.inl h)
theorem Inv.list (I : Inv X pins σ H s) (h : SqL X.K H a xs) : ∃ its : List Value, Vals xs its ∧ PlainL s.heap a its.toArray ∧ xs.length ≤ sizeLine := by
  rcases h with h | ⟨o, its, n, hk, hc, hd, hs, hz, r⟩
  · obtain ⟨z, its, n, r, e⟩ := h.ok I.hok
    exact ⟨its, r, ⟨_, n, e, rfl, rfl, rfl⟩, z⟩
  · refine ⟨its.toList, r, ⟨o, n, I.kIn a o hk, hc, hd, by simpa using hs⟩, ?_⟩
    have e := r.length
    simp only [Array.length_toList] at e
    omega
theorem Inv.tuple (I : Inv X pins σ H s) (h : SqT X.K H a xs) : ∃ its : List Value, Vals xs its ∧ IsTup s.heap a its.toArray ∧ xs.length ≤ sizeLine := by
  rcases h with h | ⟨o, its, n, hk, hc, hs, hz, r⟩
  · obtain ⟨z, its, r, p⟩ := h.ok I.hok
    exact ⟨its, r, p, z⟩
  · refine ⟨its.toList, r, ⟨o, I.kIn a o hk, hc, n, by simpa using hs⟩, ?_⟩
    have e := r.length
    simp only [Array.length_toList] at e
    omega
theorem Inv.list_inj (I : Inv X pins σ H s) (h : SqL X.K H a xs) (h' : SqL X.K H a ys) : xs = ys := by
  obtain ⟨its, r, ⟨o, n, e, _, _, d⟩, _⟩ := I.list h
  obtain ⟨its', r', ⟨o', n', e', _, _, d'⟩, _⟩ := I.list h'
  rw [e] at e'; cases e'
  rw [d] at d'
  injection d' with d1 _
  have : its = its' := by simpa using congrArg Array.toList d1
  subst this
  exact r.inj r'
theorem Inv.tuple_inj (I : Inv X pins σ H s) (h : SqT X.K H a xs) (h' : SqT X.K H a ys) : xs = ys := by
  obtain ⟨its, r, ⟨o, e, _, n, d⟩, _⟩ := I.tuple h
  obtain ⟨its', r', ⟨o', e', _, n', d'⟩, _⟩ := I.tuple h'
  rw [e] at e'; cases e'
  rw [d] at d'
  injection d' with d1 _
  have : its = its' := by simpa using congrArg Array.toList d1
  subst this
  exact r.inj r'
end

/-! ### another wish about exceptions -/
abbrev Cx.wish (X : Cx) (E : Value → Shared → Prop) : Cx := { X with xe := E }
/-- no exception leaves -/
abbrev Cx.nox (X : Cx) : Cx := X.wish fun _ _ => False
theorem Cx.Ok.wish {X : Cx} (ok : X.Ok) (E : Value → Shared → Prop) : (X.wish E).Ok :=
  ⟨ok.mod, ok.kind, ok.glob, ok.blt, ok.above, ok.inj, ok.has, ok.cab, ok.hd, ok.frames, ok.stk, ok.exf, ok.bs, ok.bsz, ok.noex, ok.exfs, ok.funs, ok.frf⟩
theorem Cx.Ok.unwish {X : Cx} {E : Value → Shared → Prop} (ok : (X.wish E).Ok) : X.Ok :=
  ⟨ok.mod, ok.kind, ok.glob, ok.blt, ok.above, ok.inj, ok.has, ok.cab, ok.hd, ok.frames, ok.stk, ok.exf, ok.bs, ok.bsz, ok.noex, ok.exfs, ok.funs, ok.frf⟩
section
variable {X : Cx} {pins : List (Addr × Obj)} {σ : St} {H : Hp} {s : Shared} {E : Value → Shared → Prop}
theorem Inv.wish (I : Inv X pins σ H s) (E : Value → Shared → Prop) : Inv (X.wish E) pins σ H s := ⟨I.ok.wish E, I.os, I.bare, I.base, I.loc, I.cell, I.free, I.freeC, I.pin, I.hok, I.len⟩
theorem Inv.unwish (I : Inv (X.wish E) pins σ H s) : Inv X pins σ H s := ⟨I.ok.unwish, I.os, I.bare, I.base, I.loc, I.cell, I.free, I.freeC, I.pin, I.hok, I.len⟩
theorem SP.unwish {D : Ends} {f : Flow} {s' : Shared} (h : SP (X.wish E) pins D f s') : SP X pins D f s' := by
  cases f with
  | next => obtain ⟨σ', H', I, q⟩ := h; exact ⟨σ', H', I.unwish, q⟩
  | brk => obtain ⟨σ', H', I, q⟩ := h; exact ⟨σ', H', I.unwish, q⟩
  | cont => obtain ⟨σ', H', I, q⟩ := h; exact ⟨σ', H', I.unwish, q⟩
  | ret u => obtain ⟨v, σ', H', I, r, q⟩ := h; exact ⟨v, σ', H', I.unwish, r, q⟩
theorem PE.nox {e : Expr} {t : TE} (h : PE X.nox e t) : PE X e t := fun pins s σ H Q I hw =>
  wpAny_mono (h pins s σ H Q (I.wish _) hw) (fun _ _ ⟨v, H', I', r, q⟩ => ⟨v, H', I'.unwish, r, q⟩) fun _ _ z => False.elim z
theorem PT.nox {e : Expr} {t : TT} (h : PT X.nox e t) : PT X e t := fun pins s σ H Q I hw =>
  wpAny_mono (h pins s σ H Q (I.wish _) hw) (fun _ _ ⟨H', I', q⟩ => ⟨H', I'.unwish, q⟩) fun _ _ z => False.elim z
theorem PSs.nox {st : List Stmt} {t : TS} (h : PSs X.nox st t) : PSs X st t := fun pins s σ H D I hw =>
  wpAny_mono (h pins s σ H D (I.wish _) hw) (fun _ _ q => q.unwish) fun _ _ z => False.elim z
end

/-! ### blocks and small statements -/
section
variable {X : Cx} {st : Stmt} {rest : List Stmt} {t u : TS} {e : Expr} {te : TE} {pos : Pos}
def tNext : TS := fun D σ H => D.nx σ H
def tSeq (t u : TS) : TS := fun D σ H => t { D with nx := u D } σ H
theorem pss_nil : PSs X [] tNext := fun _ _ σ H _ I h => wpAny_execs_nil ⟨σ, H, I, h⟩
theorem pss_cons (h1 : PS X st t) (h2 : PSs X rest u) : PSs X (st :: rest) (tSeq t u) := by
  intro pins s σ H D I h
  refine wpAny_execs_cons (thn (h1 pins s σ H { D with nx := u D } I h) fun f s1 q => ?_)
  cases f with
  | next =>
    obtain ⟨σ', H', I', q⟩ := q
    exact h2 pins s1 σ' H' D I' q
  | ret v => exact q
  | brk => exact q
  | cont => exact q
theorem pss_one (h1 : PS X st t) : PSs X [st] t := by
  intro pins s σ H D I h
  refine wpAny_execs_cons (thn (h1 pins s σ H D I h) fun f s1 q => ?_)
  cases f with
  | next => exact wpAny_execs_nil q
  | ret v => exact q
  | brk => exact q
  | cont => exact q
def tBreak : TS := fun D σ H => D.bk σ H
def tCont : TS := fun D σ H => D.ct σ H
theorem ps_pass : PS X (.Pass pos) tNext := fun _ _ σ H _ I h => wpAny_Pass ⟨σ, H, I, h⟩
theorem ps_break : PS X (.Break pos) tBreak := fun _ _ σ H _ I h => wpAny_Break ⟨σ, H, I, h⟩
theorem ps_continue : PS X (.Continue pos) tCont := fun _ _ σ H _ I h => wpAny_Continue ⟨σ, H, I, h⟩
/-- in a def's body nothing is shown -/
theorem Inv.quiet {pins : List (Addr × Obj)} {σ : St} {H : Hp} {s : Shared} (I : Inv X pins σ H s) : interactive X.env = false := by simp [interactive, I.ok.kind]
/-- a docstring -/
theorem ps_doc {x j pos pos'} : PS X (.Expr (.Constant (.str x) j pos) pos') tNext := fun _ s σ H _ I h => wpAny_Expr (Calls.Constant_str (show SP X _ _ .next { s with toks := s.toks + 1 } from ⟨σ, H, I.tok _, h⟩)) I.quiet
/-- an expression whose value is dropped -/
def tDrop (te : TE) : TS := fun D σ H => te σ H fun _ H1 => D.nx σ H1
theorem ps_expr (he : PE X e te) (hs : swapsWith e none pos.line X.env = pure false := by rfl) : PS X (.Expr e pos) (tDrop te) := by
  intro pins s σ H D I h
  exact wpAny_Expr_any (thn (he pins s σ H _ I h) fun v s1 ⟨x, H1, I1, r1, q1⟩ => ⟨σ, H1, I1, q1⟩) I.quiet hs
def tRet (te : TE) : TS := fun D σ H => te σ H D.rt
theorem ps_ret (he : PE X e te) : PS X (.Return (some e) pos) (tRet te) := by
  intro pins s σ H D I h
  exact wpAny_Return_some (thn (he pins s σ H _ I h) fun v s1 ⟨x, H1, I1, r1, q1⟩ => ⟨x, σ, H1, I1, r1, q1⟩)
def tRetN : TS := fun D _ H => D.rt .non H
theorem ps_retN : PS X (.Return none pos) tRetN := fun _ _ σ H _ I h => wpAny_Return_none ⟨.non, σ, H, I, rfl, h⟩
def tIfS (c : TT) (t u : TS) : TS := fun D σ H => c σ H fun b H1 => if b = true then t D σ H1 else u D σ H1
theorem ps_if {c : Expr} {a b : List Stmt} {tc : TT} (hc : PT X c tc) (ha : PSs X a t) (hb : PSs X b u) : PS X (.If c a b pos) (tIfS tc t u) := by
  intro pins s σ H D I h
  refine wpAny_If (thn (hc pins s σ H _ I h) fun d s1 ⟨H1, I1, q1⟩ => ?_)
  cases d with
  | true => exact ha pins s1 σ H1 D I1 q1
  | false => exact hb pins s1 σ H1 D I1 q1
/-- code that the proof never comes to -/
def tNever : TS := fun _ _ _ => False
theorem ps_never : PS X st tNever := fun _ _ _ _ _ _ h => h.elim
theorem pss_never {sts : List Stmt} : PSs X sts tNever := fun _ _ _ _ _ _ h => h.elim
end

/-! ### targets -/
abbrev TG := V → St → Hp → (St → Hp → Prop) → Prop
abbrev TGs := List V → St → Hp → (St → Hp → Prop) → Prop
def PG (X : Cx) (target : Expr) (t : TG) : Prop :=
  ∀ (pins : List (Addr × Obj)) (s : Shared) (σ : St) (H : Hp) (v : V) (u : Value) (Q : St → Hp → Prop), Inv X pins σ H s → RelV v u → t v σ H Q →
    wpAny (model X.prog X.w) X.A (assign target X.env u) (fun _ s' => ∃ σ' H', Inv X pins σ' H' s' ∧ Q σ' H') X.xe s
/-- several targets, one after another -/
def PGs (X : Cx) (ts : List Expr) (t : TGs) : Prop :=
  ∀ (pins : List (Addr × Obj)) (s : Shared) (σ : St) (H : Hp) (vs : List V) (us : List Value) (Q : St → Hp → Prop), Inv X pins σ H s → Vals vs us → t vs σ H Q →
    wpAny (model X.prog X.w) X.A (assignInOrder ((assignEach ts X.env).map (·.2)) us) (fun _ s' => ∃ σ' H', Inv X pins σ' H' s' ∧ Q σ' H') X.xe s
/-- o[i] = v, by values -/
abbrev TSet := V → V → V → Hp → (Hp → Prop) → Prop
def PSet (X : Cx) (t : TSet) : Prop :=
  ∀ (pins : List (Addr × Obj)) (s : Shared) (σ : St) (H : Hp) (o i v : V) (ov iv u : Value) (Q : Hp → Prop), Inv X pins σ H s → RelV o ov → RelV i iv → RelV v u → t o i v H Q →
    wpAny (model X.prog X.w) X.A (setItem ov iv u) (fun _ s' => ∃ H', Inv X pins σ H' s' ∧ Q H') X.xe s
/-- a op= b, by values -/
abbrev TIp := V → V → Hp → VK → Prop
def PIp (X : Cx) (op : Operator) (t : TIp) : Prop :=
  ∀ (pins : List (Addr × Obj)) (s : Shared) (σ : St) (H : Hp) (x y : V) (v u : Value) (Q : VK), Inv X pins σ H s → RelV x v → RelV y u → t x y H Q →
    wpAny (model X.prog X.w) X.A (inplaceOp op v u) (EP X pins σ Q) X.xe s
section
variable {X : Cx} {pos : Pos}
def gName (i : Nat) : TG := fun v σ H Q => Q (σ.set i (some v)) H
theorem pg_name {i : Nat} {x : Str} (hN : X.N.Nodup) (hi : X.N[i]? = some x) (hx : Loc X.env.scope x) (hf : X.fn x = true ∨ X.env.scope.names.lookup x = some .local := by first | exact .inl rfl | exact .inr rfl | assumption) : PG X (.Name x pos) (gName i) := by
  intro pins s σ H v u Q I r h
  exact wpAny_assign_Name (store_ok I hN hi hx r (fun s' I' => ⟨_, H, I', h⟩) hf)
def gNil : TGs := fun vs σ H Q => vs = [] ∧ Q σ H
def gCons (t : TG) (u : TGs) : TGs := fun vs σ H Q => ∃ v r, vs = v :: r ∧ t v σ H fun σ' H' => u r σ' H' Q
theorem pgs_nil : PGs X [] gNil := by
  intro pins s σ H vs us Q I r h
  obtain ⟨e, h⟩ := h
  subst e
  cases r
  exact assignInOrder_nil ⟨σ, H, I, h⟩
theorem pgs_cons {e : Expr} {es : List Expr} {t : TG} {u : TGs} (h1 : PG X e t) (h2 : PGs X es u)
    (hs : (assignEach (e :: es) X.env).map (·.2) = assign e X.env :: (assignEach es X.env).map (·.2) := by rfl) : PGs X (e :: es) (gCons t u) := by
  intro pins s σ H vs us Q I r h
  obtain ⟨v, vr, e1, h⟩ := h
  subst e1
  cases r with
  | cons r rr =>
    rw [hs]
    refine assignInOrder_cons (thn (h1 pins s σ H _ _ _ I r h) fun _ s1 ⟨σ1, H1, I1, q1⟩ => ?_)
    exact h2 pins s1 σ1 H1 _ _ Q I1 rr q1
/-- (a, b, ..) = a tuple of that length -/
def gTup (K : PySem.W.Frag) (n : Nat) (t : TGs) : TG := fun v σ H Q => ∃ a xs, v = .ref a ∧ SqT K H a xs ∧ xs.length = n ∧ t xs σ H Q
theorem pg_tup {es : List Expr} {k : Nat} {t : TGs} {n : Nat} (hc : X.calm = true) (h : PGs X es t)
    (hn : (assignEach es X.env).length = n := by rfl) (hst : (assignEach es X.env).findIdx? (·.1) = none := by rfl) : PG X (.Tuple es k pos) (gTup X.K n t) := by
  intro pins s σ H v u Q I r hw
  obtain ⟨a, xs, e1, hq, hl, hw⟩ := hw
  subst e1
  cases r
  obtain ⟨its, rv, ht, hz⟩ := I.tuple hq
  refine assign_Tuple_tuple (I.ok.hd hc) ht (by simp [hn, ← hl, rv.length]) hst fun h' hx => ?_
  have I1 : Inv X pins σ H { s with heap := h' } := I.kept (t' := s.toks) fun b o e => hx b o (Nat.ne_of_lt (Heap.lt_size e)) e
  exact h pins _ σ H xs _ Q I1 (by simpa using rv) hw
/-- o[i] = .. -/
def gSub (to ti : TE) (t : TSet) : TG := fun v σ H Q => to σ H fun o H1 => ti σ H1 fun i H2 => t o i v H2 fun H3 => Q σ H3
theorem pg_sub {o i : Expr} {to ti : TE} {t : TSet} (ho : PE X o to) (hi : PE X i ti) (hs : PSet X t)
    (ha : ∀ v, assign (.Subscript o i pos) X.env v = (do
      let ov ← holding [v] (eval o X.env)
      let iv ← holding [v, ov] (eval i X.env)
      standAt pos
      holding [v, ov, iv] (setItem ov iv v)
      release [v, ov, iv] []) := by intro _; rfl) : PG X (.Subscript o i pos) (gSub to ti t) := by
  intro pins s σ H v u Q I r h
  rw [ha]
  refine wpAny_bind (wpAny_holding (thn (ho pins s σ H _ I h) fun ov s1 ⟨x, H1, I1, r1, q1⟩ => ?_))
  refine wpAny_bind (wpAny_holding (thn (hi pins s1 σ H1 _ I1 q1) fun iv s2 ⟨y, H2, I2, r2, q2⟩ => ?_))
  refine wpAny_bind (wpAny_standAt (wpAny_bind (wpAny_holding (thn (hs pins s2 σ H2 x y v ov iv u _ I2 r1 r2 r q2) fun _ s3 ⟨H3, I3, q3⟩ => ?_))))
  exact wpAny_release ⟨σ, H3, I3, q3⟩
/-- target = value -/
def tAsg (te : TE) (g : TG) : TS := fun D σ H => te σ H fun x H1 => g x σ H1 D.nx
theorem ps_asg {tg e : Expr} {te : TE} {g : TG} (he : PE X e te) (hg : PG X tg g) (hs : swapsWithSole [tg] e pos.line X.env = pure false := by rfl) (hw : swappedStores [tg] e X.env = pure none := by rfl)
    (h1 : (assignEach [tg] X.env).map (·.2) = [assign tg X.env] := by rfl) : PS X (.Assign [tg] e pos) (tAsg te g) := by
  intro pins s σ H D I h
  refine wpAny_Assign_stores (thn (he pins s σ H _ I h) fun v s1 ⟨x, H1, I1, r1, q1⟩ => ?_) hs hw
  rw [h1]
  exact thn (hg pins s1 σ H1 x v _ I1 r1 q1) fun _ s2 q => q
/-- name = value -/
theorem ps_set {i : Nat} {x : Str} {e : Expr} {te : TE} {pos' : Pos} (hN : X.N.Nodup) (hi : X.N[i]? = some x) (hx : Loc X.env.scope x) (he : PE X e te) (hs : swapsWith e (some (.Name x pos')) pos.line X.env = pure false := by rfl) (hf : X.fn x = true ∨ X.env.scope.names.lookup x = some .local := by first | exact .inl rfl | exact .inr rfl | assumption) :
    PS X (.Assign [.Name x pos'] e pos) (tAsg te (gName i)) := by
  intro pins s σ H D I h
  refine wpAny_Assign_Name (thn (he pins s σ H _ I h) fun v s1 ⟨y, H1, I1, r1, q1⟩ => ?_) hs
  exact store_ok I1 hN hi hx r1 (fun s2 I2 => ⟨_, H1, I2, q1⟩) hf
/-- a, b = x, y with plain local names: stored from the right; the pair itself is not tracked (the opening rows as in PyProof/Rows/TupAssign.lean:23) -/
def tPar (i j : Nat) (ta : TA) : TS := fun D σ H => ta σ H fun vs H1 => ∃ v w, vs = [v, w] ∧ D.nx ((σ.set i (some v)).set j (some w)) H1
theorem ps_par {i j : Nat} {x y : Str} {a b : Expr} {ta : TA} {px py pt : Pos} {kt k2 pt2} (hc : X.calm = true) (hN : X.N.Nodup) (hi : X.N[i]? = some x) (hj : X.N[j]? = some y) (hij : i ≠ j)
    (hx : X.env.scope.names.lookup x = some .local) (hy : X.env.scope.names.lookup y = some .local) (ha : PA X [a, b] ta)
    (hw : swappedStores [.Tuple [.Name x px, .Name y py] kt pt] (.Tuple [a, b] k2 pt2) X.env = pure (some [x, y]))
    (hs : swapsWithSole [.Tuple [.Name x px, .Name y py] kt pt] (.Tuple [a, b] k2 pt2) pos.line X.env = pure false := by rfl) :
    PS X (.Assign [.Tuple [.Name x px, .Name y py] kt pt] (.Tuple [a, b] k2 pt2) pos) (tPar i j ta) := by
  intro pins s σ H D I h
  rw [exec_Assign_arm]
  refine wpAny_bind (wpAny_standAt ?_)
  rw [hs]
  refine wpAny_bind (wpAny_pure ?_)
  rw [if_neg (by decide)]
  refine wpAny_bind (Tuple_ (thn (ha _ pins s σ H _ I h) fun us s1 ⟨vs, H1, I1, r1, q1⟩ => ?_))
  obtain ⟨v, w, e1, q1⟩ := q1
  subst e1
  obtain ⟨u1, u2, rfl, rv, rw'⟩ : ∃ u1 u2, us = [u1, u2] ∧ RelV v u1 ∧ RelV w u2 := by
    cases r1 with
    | cons p q =>
      cases q with
      | cons p' q' =>
        cases q'
        exact ⟨_, _, rfl, p, p'⟩
  refine wpAny_newObj_type ?_ (by show 2 ≤ sizeLine; decide)
  have I2 : Inv X pins σ H1 { s1 with heap := s1.heap.push { cls := .type "tuple", data := .seq [u1, u2].toArray } } := I1.kept (t' := s1.toks) fun b o e => Heap.get?_push_of_some _ e
  rw [hw]
  refine wpAny_bind (wpAny_pure ?_)
  show wpAny (model X.prog X.w) X.A (do rule "assign.swapped-stores"; let items ← unpackItems (.ref s1.heap.objs.size) 2 none; assignInOrder [fun v => bindName X.env y v, fun v => bindName X.env x v] items.reverse; pure Flow.next) _ _ _
  refine wpAny_bind (wpAny_rule (wpAny_bind (unpackItems_tuple (items := #[u1, u2]) (I.ok.hd hc) (IsTup.new s1.heap _) fun h' hx' => ?_)))
  have I3 := I2.kept (h' := h') (t' := s1.toks) fun b o e => hx' b o (Nat.ne_of_lt (Heap.lt_size e)) e
  show wpAny _ _ (assignInOrder [fun v => bindName X.env y v, fun v => bindName X.env x v] [u2, u1] >>= fun _ => pure Flow.next) _ _ _
  refine wpAny_bind (assignInOrder_cons (wpAny_bindName (store_ok I3 hN hj (.inl hy) rw' (fun s2 I4 => ?_) (.inr hy))))
  refine assignInOrder_cons (wpAny_bindName (store_ok I4 hN hi (.inl hx) rv (fun s3 I5 => assignInOrder_nil (wpAny_pure ?_)) (.inr hx)))
  rw [List.set_comm _ _ (Ne.symm hij)] at I5
  exact ⟨_, H1, I5, q1⟩
/-- name op= e -/
def tAug (i : Nat) (te : TE) (ti : TIp) : TS := fun D σ H => ∃ x, σ[i]? = some (some x) ∧ te σ H fun y H1 => ti x y H1 fun z H2 => D.nx (σ.set i (some z)) H2
theorem ps_aug {i : Nat} {x : Str} {e : Expr} {te : TE} {op : Operator} {ti : TIp} {pos' : Pos} (hN : X.N.Nodup) (hi : X.N[i]? = some x) (hx : Loc X.env.scope x) (he : PE X e te) (ho : PIp X op ti) (hf : X.fn x = true ∨ X.env.scope.names.lookup x = some .local := by first | exact .inl rfl | exact .inr rfl | assumption) :
    PS X (.AugAssign (.Name x pos') op e pos) (tAug i te ti) := by
  intro pins s σ H D I h
  obtain ⟨v, e1, h⟩ := h
  obtain ⟨m, hn, hl⟩ := I.loc
  have vis : Vis X.env.scope x := by rcases hx with k | k; exact .inl k; exact .inr (.inl k)
  obtain ⟨u, r, l⟩ := hl i x v hi e1 vis
  refine wpAny_AugAssign_Name ?_
  have go : wpAny (model X.prog X.w) X.A (eval e X.env) (fun w s₂ => wpAny (model X.prog X.w) X.A (inplaceOp op u w) (fun r s₃ => wpAny (model X.prog X.w) X.A (storeName X.env x r) (fun _ => SP X pins D .next) X.xe s₃) X.xe s₂) X.xe s := by
    refine thn (he pins s σ H _ I h) fun w s1 ⟨y, H1, I1, r1, q1⟩ => ?_
    refine thn (ho pins s1 σ H1 v y u w _ I1 r r1 q1) fun z s2 ⟨zv, H2, I2, r2, q2⟩ => ?_
    exact store_ok I2 hN hi hx r2 (fun s3 I3 => ⟨_, H2, I3, q2⟩) hf
  rcases l with ⟨hk, hm⟩ | ⟨hk, c, hc, hcell⟩
  · exact wpAny_loadName_local I.ok.kind hk hn hm go
  · rcases hk with hk | hk
    · exact wpAny_loadName_cell I.ok.kind hk hc hcell go
    · rcases hx with k | k
      · have : X.env.scope.names.lookup x = some .free := hk
        rw [k] at this; cases this
      · have : X.env.scope.names.lookup x = some .free := hk
        rw [k] at this; cases this
/-- o[i] op= e -/
def tAugS (to ti te : TE) (tget : V → V → Hp → VK → Prop) (tip : TIp) (tset : TSet) : TS := fun D σ H => to σ H fun o H1 => ti σ H1 fun i H2 => tget o i H2 fun x H3 => te σ H3 fun y H4 => tip x y H4 fun z H5 => tset o i z H5 fun H6 => D.nx σ H6
/-- o[i], by values -/
def PGet (X : Cx) (t : V → V → Hp → VK → Prop) : Prop :=
  ∀ (pins : List (Addr × Obj)) (s : Shared) (σ : St) (H : Hp) (o i : V) (ov iv : Value) (Q : VK), Inv X pins σ H s → RelV o ov → RelV i iv → t o i H Q →
    wpAny (model X.prog X.w) X.A (getItem ov iv) (EP X pins σ Q) X.xe s
theorem ps_augS {o i e : Expr} {to ti te : TE} {tget : V → V → Hp → VK → Prop} {tip : TIp} {tset : TSet} {op : Operator} {tpos : Pos} (ho : PE X o to) (hi : PE X i ti) (hg : PGet X tget) (he : PE X e te) (hp : PIp X op tip) (hs : PSet X tset)
    (ha : ∀ ov iv new, augStore i ov iv new = (do holding [new, ov, iv] (setItem ov iv new); release [new, ov, iv] []; pure .next) := by intros; rfl) : PS X (.AugAssign (.Subscript o i tpos) op e pos) (tAugS to ti te tget tip tset) := by
  intro pins s σ H D I h
  refine wpAny_AugAssign_SubscriptAny (thn (ho pins s σ H _ I h) fun ov s1 ⟨x1, H1, I1, r1, q1⟩ => ?_) ha
  refine thn (hi pins s1 σ H1 _ I1 q1) fun iv s2 ⟨x2, H2, I2, r2, q2⟩ => ?_
  refine thn (hg pins s2 σ H2 x1 x2 ov iv _ I2 r1 r2 q2) fun old s3 ⟨x3, H3, I3, r3, q3⟩ => ?_
  refine thn (he pins s3 σ H3 _ I3 q3) fun v s4 ⟨x4, H4, I4, r4, q4⟩ => ?_
  refine thn (hp pins s4 σ H4 x3 x4 old v _ I4 r3 r4 q4) fun new s5 ⟨x5, H5, I5, r5, q5⟩ => ?_
  exact thn (hs pins s5 σ H5 x1 x2 x5 ov iv new _ I5 r1 r2 r5 q5) fun _ s6 ⟨H6, I6, q6⟩ => ⟨σ, H6, I6, q6⟩
/-- ints -/
def ipI (f : Int → Int → Int) : TIp := fun x y H Q => ∃ i j, x = .int i ∧ y = .int j ∧ Q (.int (f i j)) H
theorem ip_add : PIp X .Add (ipI fun i j => i + j) := by
  intro pins s σ H x y v u Q I r1 r2 h
  obtain ⟨i, j, e1, e2, q⟩ := h
  subst e1; subst e2
  obtain ⟨t, rfl⟩ := r1
  obtain ⟨t', rfl⟩ := r2
  exact iadd_int ⟨.int _, H, I.tok _, ⟨_, rfl⟩, q⟩
theorem ip_sub : PIp X .Sub (ipI fun i j => i - j) := by
  intro pins s σ H x y v u Q I r1 r2 h
  obtain ⟨i, j, e1, e2, q⟩ := h
  subst e1; subst e2
  obtain ⟨t, rfl⟩ := r1
  obtain ⟨t', rfl⟩ := r2
  exact isub_int ⟨.int _, H, I.tok _, ⟨_, rfl⟩, q⟩
end

/-! ### while -/
section
variable {X : Cx} {pos : Pos}
/-- the invariant W with its measure -/
def tWhile (c : TT) (tb : TS) : TS := fun D σ H => ∃ W : Nat → St → Hp → Prop, (∃ m, W m σ H) ∧ ∀ m σ H, W m σ H →
  c σ H fun b H1 => if b = true then ∃ N : St → Hp → Prop, (∀ σ' H', N σ' H' → ∃ m', m' < m ∧ W m' σ' H') ∧ tb { D with nx := N, ct := N, bk := D.nx } σ H1 else D.nx σ H1
theorem ps_while {c : Expr} {body : List Stmt} {tc : TT} {tb : TS} (hp : PassesOwn (model X.prog X.w) X.A X.env X.xe) (hc : PT X c tc) (hb : PSs X body tb) : PS X (.While c body [] pos) (tWhile tc tb) := by
  intro pins s σ H D I h
  obtain ⟨W, ⟨m0, w0⟩, turn⟩ := h
  refine wpAny_While (codeAny_whileLoop (fun n s' => ∃ σ' H', Inv X pins σ' H' s' ∧ W n σ' H') ?_ m0 ⟨σ, H, I, w0⟩)
  rintro n s1 ⟨σ1, H1, I1, w1⟩
  refine wpAny_passesOwn hp (thn (hc pins s1 σ1 H1 _ I1 (turn n σ1 H1 w1)) fun b s2 ⟨H2, I2, q2⟩ => ?_)
  cases b with
  | true =>
    obtain ⟨N, hN, q2⟩ := q2
    rw [if_pos rfl]
    refine wpAny_passesOwn hp (thn (hb pins s2 σ1 H2 _ I2 q2) fun f s3 q3 => ?_)
    cases f with
    | next =>
      obtain ⟨σ3, H3, I3, n3⟩ := q3
      obtain ⟨m', hm, w3⟩ := hN σ3 H3 n3
      exact ⟨m', hm, σ3, H3, I3, w3⟩
    | cont =>
      obtain ⟨σ3, H3, I3, n3⟩ := q3
      obtain ⟨m', hm, w3⟩ := hN σ3 H3 n3
      exact ⟨m', hm, σ3, H3, I3, w3⟩
    | brk => exact q3
    | ret v => exact q3
  | false =>
    rw [if_neg Bool.false_ne_true]
    exact wpAny_execs_nil ⟨σ1, H2, I2, q2⟩
end

/-! ### what a loop or a comprehension walks -/
/-- at turn i: it yields x (the heap may grow), or it stops -/
structure It where
  go : Nat → Hp → Prop
  yld : Nat → Hp → V → Hp → Prop
  stop : Nat → Hp → Prop
/-- the iterator's own objects may turn: they are not the frame's, not pinned, younger than the entry (or a comprehension's own) -/
def FpOk (X : Cx) (pins : List (Addr × Obj)) (H : Hp) (b : Addr) : Prop :=
  H b = none ∧ b ≠ X.env.locals ∧ b ∉ X.fs ∧ (b ∈ X.ex ∨ X.s₀.heap.objs.size ≤ b) ∧ (∀ x c, X.env.cells.lookup x = some c → c ≠ b) ∧ ∀ p ∈ X.pn ++ pins, p.1 ≠ b
theorem Inv.fpOk {X : Cx} {pins : List (Addr × Obj)} {σ : St} {H H' : Hp} {s : Shared} {b : Addr} (I : Inv X pins σ H s) (hb : s.heap.objs.size ≤ b) (hn : H' b = none) : FpOk X pins H' b := by
  refine ⟨hn, Nat.ne_of_gt (Nat.lt_of_lt_of_le I.lt hb), I.nofs hb, .inr (Nat.le_trans I.sz hb), fun x c e z => ?_, fun p hp z => ?_⟩
  · obtain ⟨v, q⟩ := I.cell x c e
    exact absurd (Nat.lt_of_lt_of_le q.lt (by rw [z]; exact hb)) (Nat.lt_irrefl _)
  · exact absurd (Nat.lt_of_lt_of_le (Heap.lt_size (I.pin p hp).1) (by rw [z]; exact hb)) (Nat.lt_irrefl _)
structure Turn (P : Program) (w : World) (K : PySem.W.Frag) (tg : Expr) (J : It) (fp : List Addr) (it : Addr) (tn : Nat → Heap → Prop) : Prop where
  mem : it ∈ fp
  obj : ∀ i h, tn i h → ∀ b ∈ fp, ∃ o, h.get? b = some o ∧ ∀ v, o.data ≠ .cell v
  keep : ∀ i h h', tn i h → (∀ b ∈ fp, ∀ o, h.get? b = some o → h'.get? b = some o) → tn i h'
  item : ∀ (X : Cx), X.prog = P → X.w = w → X.K = K → X.calm = true → ∀ (i : Nat) (pins : List (Addr × Obj)) (s : Shared) (σ : St) (H : Hp) (E : Value → Shared → Prop), Inv X pins σ H s → (∀ b ∈ fp, FpOk X pins H b) → tn i s.heap → J.go i H →
    wpAny (model P w) X.A (pyNext (.ref it)) (fun r s1 => ∃ u, r = some u ∧
      wpAny (model P w) X.A (letOwnedTupleGo tg (.ref it) u) (fun _ s2 => ∃ x H', Inv X pins σ H' s2 ∧ RelV x u ∧ J.yld i H x H' ∧ tn (i + 1) s2.heap ∧ ∀ b ∈ fp, H' b = none) E s1) E s
  done : ∀ (X : Cx), X.prog = P → X.w = w → X.K = K → X.calm = true → ∀ (i : Nat) (pins : List (Addr × Obj)) (s : Shared) (σ : St) (H : Hp) (E : Value → Shared → Prop), Inv X pins σ H s → (∀ b ∈ fp, FpOk X pins H b) → tn i s.heap → J.stop i H →
    wpAny (model P w) X.A (pyNext (.ref it)) (fun r s1 => r = none ∧ Inv X pins σ H s1) E s
  self : ∀ (A : Around) (i : Nat) (s : Shared) (Q : Value → Shared → Prop) (E : Value → Shared → Prop), tn i s.heap → Q (.ref it) s → wpAny (model P w) A (pyIter (.ref it)) Q E s
abbrev TI := St → Hp → (It → Hp → Prop) → Prop
/-- an iterator has come -/
def PIE (X : Cx) (pins : List (Addr × Obj)) (σ : St) (tg : Expr) (R : It → Hp → Prop) (itv : Value) (s2 : Shared) : Prop :=
  ∃ (it : Addr) (fp : List Addr) (tn : Nat → Heap → Prop) (J : It) (H' : Hp), itv = .ref it ∧ Inv X pins σ H' s2 ∧ Turn X.prog X.w X.K tg J fp it tn ∧ tn 0 s2.heap ∧ (∀ b ∈ fp, FpOk X pins H' b) ∧ R J H'
def PI (X : Cx) (tg iter : Expr) (wi : TI) : Prop :=
  ∀ (pins : List (Addr × Obj)) (s : Shared) (σ : St) (H : Hp) (R : It → Hp → Prop), Inv X pins σ H s → wi σ H R →
    wpAny (model X.prog X.w) X.A (eval iter X.env) (fun v s1 => wpAny (model X.prog X.w) X.A (pyIter v) (PIE X pins σ tg R) X.xe s1) X.xe s

/-- the step ahead of the store is nothing for an iterator that keeps no tuple -/
theorem go_of {M : Model} {A : Around} {E : Value → Shared → Prop} {s : Shared} {tg : Expr} {it : Addr} {u : Value} {o : Obj} {n : String} {vs : Array Value} {Q : Unit → Shared → Prop} (ho : s.heap.get? it = some o) (hc : o.cls = .type n) (hd : o.data = .fields vs)
    (hn : ["enumerate", "zip", "dict_itemiterator", "dict_reverseitemiterator", "odict_iterator", "itertools.zip_longest", "itertools.pairwise"].contains n = false) (hQ : Q () s) : wpAny M A (letOwnedTupleGo tg (.ref it) u) Q E s := by
  unfold letOwnedTupleGo
  cases tg <;> first
    | exact wpAny_pure hQ
    | (cases u <;> first
        | exact wpAny_pure hQ
        | (refine wpAny_bind (wpAny_load ho ?_)
           rw [hc, hd]
           show wpAny M A (if (["enumerate", "zip", "dict_itemiterator", "dict_reverseitemiterator", "odict_iterator", "itertools.zip_longest", "itertools.pairwise"].contains n && vs[0]? == some (rawInt _)) = true then _ else _) Q E s
           rw [if_neg (by intro h; rw [hn, Bool.false_and] at h; cases h)]
           exact wpAny_pure hQ))

/-- the list at a, as it stands at each turn (a loop may append to it) -/
def Itl (K : PySem.W.Frag) (a : Addr) : It :=
  ⟨fun i H => ∃ xs x, SqL K H a xs ∧ xs[i]? = some x, fun i H x H' => H' = H ∧ ∀ xs, SqL K H a xs → xs[i]? = some x, fun i H => ∃ xs, SqL K H a xs ∧ xs.length ≤ i⟩
def Itt (K : PySem.W.Frag) (a : Addr) : It :=
  ⟨fun i H => ∃ xs x, SqT K H a xs ∧ xs[i]? = some x, fun i H x H' => H' = H ∧ ∀ xs, SqT K H a xs → xs[i]? = some x, fun i H => ∃ xs, SqT K H a xs ∧ xs.length ≤ i⟩
/-- lo, lo + 1, .. (n of them) -/
def Itr (lo : Int) (n : Nat) : It := ⟨fun i _ => i < n, fun i H x H' => H' = H ∧ x = .int (lo + i), fun i _ => n ≤ i⟩
theorem turn_list {P : Program} {w : World} {K : PySem.W.Frag} {tg : Expr} (a it : Addr) : Turn P w K tg (Itl K a) [it] it (fun i h => h.IsListIter it a i) where
  mem := by simp
  obj := fun i h st b hb => by
    have e : b = it := by simpa using hb
    subst e
    obtain ⟨o, e, c, d⟩ := st
    exact ⟨o, e, fun v z => by rw [d] at z; cases z⟩
  keep := fun i h h' st k => st.at fun o e => k it (by simp) o e
  item := by
    intro X hP hw hK hc i pins s σ H E I hf st hg
    subst hP hw hK
    obtain ⟨xs, x, hq, hx⟩ := hg
    obtain ⟨its, rv, p, hz⟩ := I.list hq
    obtain ⟨u, hu, ru⟩ := rv.get hx
    obtain ⟨f0, f1, f2, f3, f4, f5⟩ := hf it (by simp)
    refine wpAny_pyNext_list_item st p.isList (x := u) (by simpa using hu) fun h' st' sb => ?_
    have I1 : Inv X pins σ H { s with heap := h' } := I.turned (t' := s.toks) (fun b o hb e => (sb.2 b hb).trans e) f0 f1 f3 f4 f5
    obtain ⟨o, e, c, d⟩ := id st'
    exact ⟨u, rfl, go_of (s := { s with heap := h' }) e c d (by decide) ⟨x, H, I1, ru, ⟨rfl, fun ys hy => by rw [I.list_inj hy hq]; exact hx⟩, st', fun b hb => (hf b hb).1⟩⟩
  done := by
    intro X hP hw hK hc i pins s σ H E I hf st hg
    subst hP hw hK
    obtain ⟨xs, hq, hx⟩ := hg
    obtain ⟨its, rv, p, hz⟩ := I.list hq
    obtain ⟨f0, f1, f2, f3, f4, f5⟩ := hf it (by simp)
    have hl := rv.length
    exact wpAny_pyNext_list_end (I.ok.hd hc) st p.isList (by simp; omega) fun h' eb => ⟨rfl, I.turned (t' := s.toks) (fun b o hb e => eb b o hb e) f0 f1 f3 f4 f5⟩
  self := fun _ _ _ _ _ st h => wpAny_pyIter_listiter st h
theorem turn_tuple {P : Program} {w : World} {K : PySem.W.Frag} {tg : Expr} (a it : Addr) : Turn P w K tg (Itt K a) [it] it (fun i h => h.IsTupleIter it a i) where
  mem := by simp
  obj := fun i h st b hb => by
    have e : b = it := by simpa using hb
    subst e
    obtain ⟨o, e, c, d⟩ := st
    exact ⟨o, e, fun v z => by rw [d] at z; cases z⟩
  keep := fun i h h' st k => st.at fun o e => k it (by simp) o e
  item := by
    intro X hP hw hK hc i pins s σ H E I hf st hg
    subst hP hw hK
    obtain ⟨xs, x, hq, hx⟩ := hg
    obtain ⟨its, rv, p, hz⟩ := I.tuple hq
    obtain ⟨u, hu, ru⟩ := rv.get hx
    obtain ⟨f0, f1, f2, f3, f4, f5⟩ := hf it (by simp)
    refine wpAny_pyNext_tuple_item st (show s.heap.IsTuple a its.toArray from p) (x := u) (by simpa using hu) fun h' st' sb => ?_
    have I1 : Inv X pins σ H { s with heap := h' } := I.turned (t' := s.toks) (fun b o hb e => (sb.2 b hb).trans e) f0 f1 f3 f4 f5
    obtain ⟨o, e, c, d⟩ := id st'
    exact ⟨u, rfl, go_of (s := { s with heap := h' }) e c d (by decide) ⟨x, H, I1, ru, ⟨rfl, fun ys hy => by rw [I.tuple_inj hy hq]; exact hx⟩, st', fun b hb => (hf b hb).1⟩⟩
  done := by
    intro X hP hw hK hc i pins s σ H E I hf st hg
    subst hP hw hK
    obtain ⟨xs, hq, hx⟩ := hg
    obtain ⟨its, rv, p, hz⟩ := I.tuple hq
    obtain ⟨f0, f1, f2, f3, f4, f5⟩ := hf it (by simp)
    have hl := rv.length
    exact wpAny_pyNext_tuple_end (I.ok.hd hc) st (show s.heap.IsTuple a its.toArray from p) (by simp; omega) fun h' eb => ⟨rfl, I.turned (t' := s.toks) (fun b o hb e => eb b o hb e) f0 f1 f3 f4 f5⟩
  self := fun _ _ _ _ _ st h => wpAny_pyIter_tupleiter st h
theorem turn_range {P : Program} {w : World} {K : PySem.W.Frag} {tg : Expr} (it : Addr) (lo : Int) (n : Nat) : Turn P w K tg (Itr lo n) [it] it (fun i h => IsRangeIter h it (lo + (i : Nat) * 1) ((n : Int) - (i : Nat)) 1) where
  mem := by simp
  obj := fun i h st b hb => by
    have e : b = it := by simpa using hb
    subst e
    exact ⟨_, st, fun v z => by
      have z' : Data.fields _ = Data.cell v := z
      cases z'⟩
  keep := fun i h h' st k => k it (by simp) _ st
  item := by
    intro X hP hw hK hc i pins s σ H E I hf st hg
    subst hP hw hK
    obtain ⟨f0, f1, f2, f3, f4, f5⟩ := hf it (by simp)
    have W := Walks.range (prog := X.prog) (w := X.w) (I.ok.hd hc) it lo 1 n
    refine W.item i s _ _ hg st fun v h' tk hv st' kk => ?_
    obtain ⟨t, rfl⟩ := hv
    have I1 : Inv X pins σ H { s with heap := h', toks := tk } := I.turned (fun b o hb e => kk b o (by simpa using hb) e) f0 f1 f3 f4 f5
    refine ⟨_, rfl, go_of (s := { s with heap := h', toks := tk }) (n := "range_iterator") st' rfl rfl (by decide) ⟨.int (lo + i), H, I1, ⟨t, ?_⟩, ⟨rfl, rfl⟩, st', fun b hb => (hf b hb).1⟩⟩
    rw [Int.mul_one]
  done := by
    intro X hP hw hK hc i pins s σ H E I hf st hg
    subst hP hw hK
    obtain ⟨f0, f1, f2, f3, f4, f5⟩ := hf it (by simp)
    exact wpAny_pyNext_range_end (I.ok.hd hc) st (by have : n ≤ i := hg; omega) fun h' eb => ⟨rfl, I.turned (t' := s.toks) (fun b o hb e => eb b o hb e) f0 f1 f3 f4 f5⟩
  self := fun _ _ _ _ _ st h => wpAny_pyIter_rangeiter st h
end L2

namespace L2
open PySem PySem.Spec PyProof.Rows
section
variable {X : Cx} {tg : Expr}
def iList (K : PySem.W.Frag) (tl : TE) : TI := fun σ H R => tl σ H fun x H1 => ∃ a, x = .ref a ∧ (∃ xs, SqL K H1 a xs) ∧ R (Itl K a) H1
def iTup (K : PySem.W.Frag) (tl : TE) : TI := fun σ H R => tl σ H fun x H1 => ∃ a, x = .ref a ∧ (∃ xs, SqT K H1 a xs) ∧ R (Itt K a) H1
theorem pi_list {l : Expr} {tl : TE} (hl : PE X l tl) : PI X tg l (iList X.K tl) := by
  intro pins s σ H R I h
  refine thn (hl pins s σ H _ I h) fun v s1 ⟨x, H1, I1, r1, q1⟩ => ?_
  obtain ⟨a, e, ⟨xs, hq⟩, q⟩ := q1
  subst e
  cases r1
  obtain ⟨its, rv, p, hz⟩ := I1.list hq
  refine wpAny_pyIter_list p.isList ?_
  refine ⟨s1.heap.objs.size, [s1.heap.objs.size], _, _, H1, rfl, I1.kept (t' := s1.toks) fun b o e => Heap.get?_push_of_some _ e, turn_list a _, ⟨_, Heap.get?_push_size _ rfl, rfl, rfl⟩, fun b hb => ?_, q⟩
  have e : b = s1.heap.objs.size := by simpa using hb
  subst e
  exact I1.fpOk (Nat.le_refl _) (I1.hok.fresh (Nat.le_refl _))
theorem pi_tup {l : Expr} {tl : TE} (hl : PE X l tl) : PI X tg l (iTup X.K tl) := by
  intro pins s σ H R I h
  refine thn (hl pins s σ H _ I h) fun v s1 ⟨x, H1, I1, r1, q1⟩ => ?_
  obtain ⟨a, e, ⟨xs, hq⟩, q⟩ := q1
  subst e
  cases r1
  obtain ⟨its, rv, p, hz⟩ := I1.tuple hq
  refine wpAny_pyIter_tuple (show s1.heap.IsTuple a its.toArray from p) ?_
  refine ⟨s1.heap.objs.size, [s1.heap.objs.size], _, _, H1, rfl, I1.kept (t' := s1.toks) fun b o e => Heap.get?_push_of_some _ e, turn_tuple a _, ⟨_, Heap.get?_push_size _ rfl, rfl, rfl⟩, fun b hb => ?_, q⟩
  have e : b = s1.heap.objs.size := by simpa using hb
  subst e
  exact I1.fpOk (Nat.le_refl _) (I1.hok.fresh (Nat.le_refl _))
/-- a range object just made, walked -/
theorem range_it {pins : List (Addr × Obj)} {σ : St} {H : Hp} {s : Shared} {R : It → Hp → Prop} {E : Value → Shared → Prop} {lo hi : Int} {t u v : Tok} {tk : Nat} (I : Inv X pins σ H s) (h1 : -(2 ^ 62) ≤ lo) (h2 : lo < 2 ^ 62) (h3 : -(2 ^ 62) ≤ hi) (h4 : hi < 2 ^ 62)
    (q : R (Itr lo (hi - lo).toNat) H) : wpAny (model X.prog X.w) X.A (pyIter (.ref s.heap.objs.size)) (PIE X pins σ tg R) E { s with heap := s.heap.push { cls := .type "range", data := .fields #[.int lo t, .int hi u, .int 1 v] }, toks := tk } := by
  refine wpAny_pyIter_range (IsRange.new ..) (small_one h1 h2 h3 h4) ?_
  have I1 : Inv X pins σ H { s with heap := s.heap.push { cls := .type "range", data := .fields #[.int lo t, .int hi u, .int 1 v] }, toks := tk } := I.kept fun b o e => Heap.get?_push_of_some _ e
  refine ⟨(s.heap.push { cls := .type "range", data := .fields #[.int lo t, .int hi u, .int 1 v] }).objs.size, [(s.heap.push { cls := .type "range", data := .fields #[.int lo t, .int hi u, .int 1 v] }).objs.size], _, _, H, rfl,
    I1.kept (t' := tk) fun b o e => Heap.get?_push_of_some _ e, turn_range _ lo (hi - lo).toNat, ?_, fun b hb => ?_, q⟩
  · have e1 : lo + ((0 : Nat) : Int) * 1 = lo := by simp
    have e2 : (((hi - lo).toNat : Nat) : Int) - ((0 : Nat) : Int) = Builtin.Range.rangeSize lo hi 1 := by rw [rangeSize_one]; split <;> omega
    show IsRangeIter _ _ (lo + ((0 : Nat) : Int) * 1) ((((hi - lo).toNat : Nat) : Int) - ((0 : Nat) : Int)) 1
    rw [e1, e2]
    exact Heap.get?_push_size _ rfl
  · have e : b = (s.heap.push { cls := .type "range", data := .fields #[.int lo t, .int hi u, .int 1 v] }).objs.size := by simpa using hb
    subst e
    exact I1.fpOk (Nat.le_refl _) (I1.hok.fresh (Nat.le_refl _))
def iRng1 (ta : TA) : TI := fun σ H R => ta σ H fun vs H1 => ∃ j : Int, vs = [.int j] ∧ -(2 ^ 62) ≤ j ∧ j < 2 ^ 62 ∧ R (Itr 0 j.toNat) H1
def iRng2 (ta : TA) : TI := fun σ H R => ta σ H fun vs H1 => ∃ i j : Int, vs = [.int i, .int j] ∧ (-(2 ^ 62) ≤ i ∧ i < 2 ^ 62 ∧ -(2 ^ 62) ≤ j ∧ j < 2 ^ 62) ∧ R (Itr i (j - i).toNat) H1
theorem pi_range1 {a : Expr} {ta : TA} {p pos : Pos} (hg : Gl X "range") (hm : X.mg "range" = none) (ha : PA X [a] ta) (hs : starEach [a] X.env = [(false, eval a X.env)] := by rfl) : PI X tg (.Call (.Name "range" p) [a] [] pos) (iRng1 ta) := by
  intro pins s σ H R I h
  refine Call_ (ld_blt I hg hm boot_range (PyProof.Rows.callWith_type1 (thn (ha pos pins s σ H _ I h) fun us s1 ⟨vs, H1, I1, r1, q1⟩ => ?_) hs rfl))
  obtain ⟨j, e, q1, q2, q⟩ := q1
  subst e
  cases r1 with
  | cons r rr =>
    cases rr
    obtain ⟨t, rfl⟩ := r
    exact call_range_1 (range_it I1 (by omega) (by omega) q1 q2 (by simpa using q))
theorem pi_range2 {a b : Expr} {ta : TA} {p pos : Pos} (hg : Gl X "range") (hm : X.mg "range" = none) (ha : PA X [a, b] ta) (hs : starEach [a, b] X.env = [(false, eval a X.env), (false, eval b X.env)] := by rfl) (hs2 : starEach [b] X.env = [(false, eval b X.env)] := by rfl) :
    PI X tg (.Call (.Name "range" p) [a, b] [] pos) (iRng2 ta) := by
  intro pins s σ H R I h
  refine Call_ (ld_blt I hg hm boot_range (PyProof.Rows.callWith_type1 (thn (ha pos pins s σ H _ I h) fun us s1 ⟨vs, H1, I1, r1, q1⟩ => ?_) (by rw [hs, hs2]) (by rw [hs2]; rfl)))
  obtain ⟨i, j, e, ⟨q1, q2, q3, q4⟩, q⟩ := q1
  subst e
  cases r1 with
  | cons r rr =>
    cases rr with
    | cons r' rr =>
      cases rr
      obtain ⟨t, rfl⟩ := r
      obtain ⟨t', rfl⟩ := r'
      exact call_range_2 (range_it I1 q1 q2 q3 q4 q)

/-! ### for -/
/-- W: the invariant by the turn and a measure; N: what the body is to reach -/
def tFor (wi : TI) (g : TG) (tb : TS) : TS := fun D σ H => wi σ H fun J H1 => ∃ W : Nat → Nat → St → Hp → Prop, (∃ m, W 0 m σ H1) ∧ ∀ i m σ H, W i m σ H →
  (J.stop i H ∧ D.nx σ H) ∨ (J.go i H ∧ ∃ N : St → Hp → Prop, (∀ σ' H', N σ' H' → ∃ m', m' < m ∧ W (i + 1) m' σ' H') ∧ ∀ x H', J.yld i H x H' → g x σ H' fun σ2 H2 => tb { D with nx := N, ct := N, bk := D.nx } σ2 H2)
/-- the records at fp as they stand -/
def pinsAt (fp : List Addr) (h : Heap) : List (Addr × Obj) := fp.filterMap fun b => (h.get? b).map fun o => (b, o)
theorem mem_pinsAt {fp : List Addr} {h : Heap} {b : Addr} {o : Obj} (hb : b ∈ fp) (e : h.get? b = some o) : (b, o) ∈ pinsAt fp h := List.mem_filterMap.mpr ⟨b, hb, by rw [e]; rfl⟩
theorem of_pinsAt {fp : List Addr} {h : Heap} {p : Addr × Obj} (hp : p ∈ pinsAt fp h) : p.1 ∈ fp ∧ h.get? p.1 = some p.2 := by
  obtain ⟨b, hb, e⟩ := List.mem_filterMap.mp hp
  cases q : h.get? b with
  | none => rw [q] at e; cases e
  | some o =>
    rw [q] at e
    have e' : (b, o) = p := Option.some.inj e
    subst e'
    exact ⟨hb, q⟩
theorem Inv.pinned {pins : List (Addr × Obj)} {σ : St} {H : Hp} {s : Shared} {fp : List Addr} (I : Inv X pins σ H s) (hf : ∀ b ∈ fp, FpOk X pins H b) (ho : ∀ b ∈ fp, ∃ o, s.heap.get? b = some o ∧ ∀ v, o.data ≠ .cell v) : Inv X (pins ++ pinsAt fp s.heap) σ H s :=
  I.pins_of fun p hp => (List.mem_append.mp hp).elim (fun z => I.pin p (List.mem_append_right _ z)) fun z => by
    obtain ⟨hb, e⟩ := of_pinsAt z
    obtain ⟨f0, f1, f2, _⟩ := hf p.1 hb
    obtain ⟨o, e', d⟩ := ho p.1 hb
    rw [e] at e'; cases e'
    exact ⟨e, f0, f1, f2, d⟩
theorem Inv.unpinned {pins pl : List (Addr × Obj)} {σ : St} {H : Hp} {s : Shared} (I : Inv X (pins ++ pl) σ H s) : Inv X pins σ H s := I.pins_of fun p hp => I.pin p (List.mem_append_right _ (List.mem_append_left _ hp))
theorem ps_for {iter : Expr} {body : List Stmt} {wi : TI} {g : TG} {tb : TS} {pos : Pos} (hp : PassesOwn (model X.prog X.w) X.A X.env X.xe) (hc : X.calm = true) (hi : PI X tg iter wi) (hg : PG X tg g) (hb : PSs X body tb)
    (hs : ∀ x, foldedSetIterable iter X.env x = pure x := by intro _; rfl) : PS X (.For tg iter body [] pos) (tFor wi g tb) := by
  intro pins s σ H D I h
  refine wpAny_For (thn (hi pins s σ H _ I h) fun v s1 h1 => thn h1 fun itv s2 h2 => ?_) hs
  obtain ⟨it, fp, tn, J, H2, e, I2, T, st2, f2, W, ⟨m0, w0⟩, turn⟩ := h2
  subst e
  -- what stays true of the iterator's objects through the loop
  have stat : ∀ {H' : Hp}, (∀ b ∈ fp, H' b = none) → ∀ b ∈ fp, FpOk X pins H' b := fun hn b hb => ⟨hn b hb, (f2 b hb).2⟩
  refine codeAny_forLoop_any (fun n s' => ∃ i σ' H', Inv X pins σ' H' s' ∧ tn i s'.heap ∧ (∀ b ∈ fp, H' b = none) ∧ W i n σ' H') ?_ m0 ⟨0, σ, H2, I2, st2, fun b hb => (f2 b hb).1, w0⟩
  rintro n s3 ⟨i, σ3, H3, I3, st3, fr3, w3⟩
  rcases turn i n σ3 H3 w3 with ⟨stop, qn⟩ | ⟨go, N, hN, step⟩
  · refine wpAny_passesOwn hp (thn (T.done X rfl rfl rfl hc i pins s3 σ3 H3 X.xe I3 (stat fr3) st3 stop) fun r s4 ⟨hr, I4⟩ => ?_)
    subst hr
    exact wpAny_execs_nil ⟨σ3, H3, I4, qn⟩
  · refine wpAny_passesOwn hp (thn (T.item X rfl rfl rfl hc i pins s3 σ3 H3 X.xe I3 (stat fr3) st3 go) fun r s4 ⟨u, hr, h4⟩ => ?_)
    subst hr
    refine wpAny_passesOwn hp (thn h4 fun _ s5 ⟨x, H5, I5, r5, y5, st5, fr5⟩ => ?_)
    have I5' := I5.pinned (stat fr5) (T.obj _ _ st5)
    refine wpAny_passesOwn hp (thn (hg _ s5 σ3 H5 x u _ I5' r5 (step x H5 y5)) fun _ s6 ⟨σ6, H6, I6, q6⟩ => ?_)
    refine wpAny_passesOwn hp (thn (hb _ s6 σ6 H6 _ I6 q6) fun f s7 q7 => ?_)
    have again : ∀ {σ7 : St} {H7 : Hp}, Inv X (pins ++ pinsAt fp s5.heap) σ7 H7 s7 → N σ7 H7 → ∃ m, m < n ∧ ∃ i σ' H', Inv X pins σ' H' s7 ∧ tn i s7.heap ∧ (∀ b ∈ fp, H' b = none) ∧ W i m σ' H' := fun {σ7 H7} I7 n7 => by
      obtain ⟨m', hm, w7⟩ := hN σ7 H7 n7
      refine ⟨m', hm, i + 1, σ7, H7, I7.unpinned, T.keep _ _ _ st5 fun b hb o e => (I7.pin (b, o) (List.mem_append_right _ (List.mem_append_right _ (mem_pinsAt hb e)))).1, fun b hb => ?_, w7⟩
      obtain ⟨o, e, d⟩ := T.obj _ _ st5 b hb
      exact (I7.pin (b, o) (List.mem_append_right _ (List.mem_append_right _ (mem_pinsAt hb e)))).2.1
    cases f with
    | next => obtain ⟨σ7, H7, I7, n7⟩ := q7; exact again I7 n7
    | cont => obtain ⟨σ7, H7, I7, n7⟩ := q7; exact again I7 n7
    | brk => obtain ⟨σ7, H7, I7, q7⟩ := q7; exact ⟨σ7, H7, I7.unpinned, q7⟩
    | ret v => obtain ⟨x7, σ7, H7, I7, r7, q7⟩ := q7; exact ⟨x7, σ7, H7, I7.unpinned, r7, q7⟩
end

/-! ### the forms one uses -/
/-- over a list that the body leaves as it is -/
theorem for_list {K : PySem.W.Frag} {a : Addr} {xs : List V} {g : TG} {tb : TS} {D : Ends} {σ : St} {H : Hp} (Pv : Nat → St → Hp → Prop) (h0 : Pv 0 σ H) (hl : ∀ i σ H, i ≤ xs.length → Pv i σ H → SqL K H a xs)
    (hs : ∀ i x σ H, xs[i]? = some x → Pv i σ H → g x σ H fun σ2 H2 => tb { D with nx := Pv (i + 1), ct := Pv (i + 1), bk := D.nx } σ2 H2) (hd : ∀ σ H, Pv xs.length σ H → D.nx σ H) :
    ∃ W : Nat → Nat → St → Hp → Prop, (∃ m, W 0 m σ H) ∧ ∀ i m σ H, W i m σ H →
      ((Itl K a).stop i H ∧ D.nx σ H) ∨ ((Itl K a).go i H ∧ ∃ N : St → Hp → Prop, (∀ σ' H', N σ' H' → ∃ m', m' < m ∧ W (i + 1) m' σ' H') ∧ ∀ x H', (Itl K a).yld i H x H' → g x σ H' fun σ2 H2 => tb { D with nx := N, ct := N, bk := D.nx } σ2 H2) := by
  refine ⟨fun i m σ H => m = xs.length - i ∧ i ≤ xs.length ∧ Pv i σ H, ⟨xs.length, by simp, Nat.zero_le _, h0⟩, ?_⟩
  rintro i m σ H ⟨rfl, hi, p⟩
  have q := hl i σ H hi p
  by_cases hlt : i < xs.length
  · refine .inr ⟨⟨xs, xs[i], q, by simp [hlt]⟩, Pv (i + 1), fun σ' H' p' => ⟨xs.length - (i + 1), by omega, rfl, hlt, p'⟩, fun x H' y => ?_⟩
    obtain ⟨e, y⟩ := y
    subst e
    exact hs i x σ _ (y xs q) p
  · have e : i = xs.length := by omega
    subst e
    exact .inl ⟨⟨xs, q, Nat.le_refl _⟩, hd σ H p⟩
theorem for_tup {K : PySem.W.Frag} {a : Addr} {xs : List V} {g : TG} {tb : TS} {D : Ends} {σ : St} {H : Hp} (Pv : Nat → St → Hp → Prop) (h0 : Pv 0 σ H) (hl : ∀ i σ H, i ≤ xs.length → Pv i σ H → SqT K H a xs)
    (hs : ∀ i x σ H, xs[i]? = some x → Pv i σ H → g x σ H fun σ2 H2 => tb { D with nx := Pv (i + 1), ct := Pv (i + 1), bk := D.nx } σ2 H2) (hd : ∀ σ H, Pv xs.length σ H → D.nx σ H) :
    ∃ W : Nat → Nat → St → Hp → Prop, (∃ m, W 0 m σ H) ∧ ∀ i m σ H, W i m σ H →
      ((Itt K a).stop i H ∧ D.nx σ H) ∨ ((Itt K a).go i H ∧ ∃ N : St → Hp → Prop, (∀ σ' H', N σ' H' → ∃ m', m' < m ∧ W (i + 1) m' σ' H') ∧ ∀ x H', (Itt K a).yld i H x H' → g x σ H' fun σ2 H2 => tb { D with nx := N, ct := N, bk := D.nx } σ2 H2) := by
  refine ⟨fun i m σ H => m = xs.length - i ∧ i ≤ xs.length ∧ Pv i σ H, ⟨xs.length, by simp, Nat.zero_le _, h0⟩, ?_⟩
  rintro i m σ H ⟨rfl, hi, p⟩
  have q := hl i σ H hi p
  by_cases hlt : i < xs.length
  · refine .inr ⟨⟨xs, xs[i], q, by simp [hlt]⟩, Pv (i + 1), fun σ' H' p' => ⟨xs.length - (i + 1), by omega, rfl, hlt, p'⟩, fun x H' y => ?_⟩
    obtain ⟨e, y⟩ := y
    subst e
    exact hs i x σ _ (y xs q) p
  · have e : i = xs.length := by omega
    subst e
    exact .inl ⟨⟨xs, q, Nat.le_refl _⟩, hd σ H p⟩
theorem for_range {lo : Int} {n : Nat} {g : TG} {tb : TS} {D : Ends} {σ : St} {H : Hp} (Pv : Nat → St → Hp → Prop) (h0 : Pv 0 σ H)
    (hs : ∀ i σ H, i < n → Pv i σ H → g (.int (lo + i)) σ H fun σ2 H2 => tb { D with nx := Pv (i + 1), ct := Pv (i + 1), bk := D.nx } σ2 H2) (hd : ∀ σ H, Pv n σ H → D.nx σ H) :
    ∃ W : Nat → Nat → St → Hp → Prop, (∃ m, W 0 m σ H) ∧ ∀ i m σ H, W i m σ H →
      ((Itr lo n).stop i H ∧ D.nx σ H) ∨ ((Itr lo n).go i H ∧ ∃ N : St → Hp → Prop, (∀ σ' H', N σ' H' → ∃ m', m' < m ∧ W (i + 1) m' σ' H') ∧ ∀ x H', (Itr lo n).yld i H x H' → g x σ H' fun σ2 H2 => tb { D with nx := N, ct := N, bk := D.nx } σ2 H2) := by
  refine ⟨fun i m σ H => m = n - i ∧ i ≤ n ∧ Pv i σ H, ⟨n, by simp, Nat.zero_le _, h0⟩, ?_⟩
  rintro i m σ H ⟨rfl, hi, p⟩
  by_cases hlt : i < n
  · refine .inr ⟨hlt, Pv (i + 1), fun σ' H' p' => ⟨n - (i + 1), by omega, rfl, hlt, p'⟩, fun x H' y => ?_⟩
    obtain ⟨e, y⟩ := y
    subst e y
    exact hs i σ _ hlt p
  · have e : i = n := by omega
    subst e
    exact .inl ⟨Nat.le_refl _, hd σ H p⟩
/-- while, by a word and a measure of the state -/
theorem while_by {c : TT} {tb : TS} {D : Ends} {σ : St} {H : Hp} (Pv : St → Hp → Prop) (μ : St → Hp → Nat) (h0 : Pv σ H)
    (hs : ∀ σ H, Pv σ H → c σ H fun b H1 => if b = true then tb { D with nx := fun σ' H' => Pv σ' H' ∧ μ σ' H' < μ σ H, ct := fun σ' H' => Pv σ' H' ∧ μ σ' H' < μ σ H, bk := D.nx } σ H1 else D.nx σ H1)
    (mono : ∀ σ H Q Q', (∀ b H1, Q b H1 → Q' b H1) → c σ H Q → c σ H Q') : tWhile c tb D σ H := by
  refine ⟨fun m σ H => m = μ σ H ∧ Pv σ H, ⟨_, rfl, h0⟩, ?_⟩
  rintro m σ H ⟨rfl, p⟩
  refine mono σ H _ _ (fun b H1 q => ?_) (hs σ H p)
  cases b with
  | true => exact ⟨_, fun σ' H' ⟨p', l⟩ => ⟨_, l, rfl, p'⟩, q⟩
  | false => exact q
end L2

namespace L2
open PySem PySem.Spec PyProof.Rows

abbrev R2 := V → V → Hp → VK → Prop
/-- a two-place operation on values: f is binaryOp op, inplaceOp op or compareOp op -/
def OpR (X : Cx) (f : Value → Value → Sem Value) (r : R2) : Prop :=
  ∀ (pins : List (Addr × Obj)) (s : Shared) (σ : St) (H : Hp) (x y : V) (v u : Value) (Q : VK), Inv X pins σ H s → RelV x v → RelV y u → r x y H Q →
    wpAny (model X.prog X.w) X.A (f v u) (EP X pins σ Q) X.xe s
/-- a one-place operation -/
def UnR (X : Cx) (f : Value → Sem Value) (r : V → Hp → VK → Prop) : Prop :=
  ∀ (pins : List (Addr × Obj)) (s : Shared) (σ : St) (H : Hp) (x : V) (v : Value) (Q : VK), Inv X pins σ H s → RelV x v → r x H Q →
    wpAny (model X.prog X.w) X.A (f v) (EP X pins σ Q) X.xe s
/-- a call of a value that is known (a builtin, a type) with values -/
def CallR (X : Cx) (f : Value) (r : List V → Hp → VK → Prop) : Prop :=
  ∀ (pins : List (Addr × Obj)) (s : Shared) (σ : St) (H : Hp) (xs : List V) (us : List Value) (Q : VK), Inv X pins σ H s → Vals xs us → r xs H Q →
    wpAny (model X.prog X.w) X.A (call f us) (EP X pins σ Q) X.xe s
/-- a value's truth -/
def TruR (X : Cx) (r : V → Hp → (Bool → Hp → Prop) → Prop) : Prop :=
  ∀ (pins : List (Addr × Obj)) (s : Shared) (σ : St) (H : Hp) (x : V) (v : Value) (Q : Bool → Hp → Prop), Inv X pins σ H s → RelV x v → r x H Q →
    wpAny (model X.prog X.w) X.A (truthy v) (TP X pins σ Q) X.xe s

def tOp (r : R2) (ta tb : TE) : TE := fun σ H Q => ta σ H fun x H1 => tb σ H1 fun y H2 => r x y H2 Q
def tUn (r : V → Hp → VK → Prop) (ta : TE) : TE := fun σ H Q => ta σ H fun x H1 => r x H1 Q
/-- ints in, under C, and a value out -/
def rI (C : Int → Int → Prop) (g : Int → Int → V) : R2 := fun x y H Q => ∃ i j, x = .int i ∧ y = .int j ∧ C i j ∧ Q (g i j) H
def rI0 (g : Int → Int → V) : R2 := fun x y H Q => ∃ i j, x = .int i ∧ y = .int j ∧ Q (g i j) H
def rU (g : Int → V) : V → Hp → VK → Prop := fun x H Q => ∃ i, x = .int i ∧ Q (g i) H

section
variable {X : Cx} {a b c : Expr} {ta tb tc : TE} {pos : Pos}

theorem binT (ha : PE X a ta) (hb : PE X b tb) {pins : List (Addr × Obj)} {s : Shared} {σ : St} {H : Hp} {R : V → V → Hp → Prop} (I : Inv X pins σ H s)
    (h : ta σ H fun x H1 => tb σ H1 fun y H2 => R x y H2) {Q : Value → Shared → Prop} {f : Value → Value → Sem Value}
    (hf : ∀ v u s2 x y H2, Inv X pins σ H2 s2 → RelV x v → RelV y u → R x y H2 → wpAny (model X.prog X.w) X.A (f v u) Q X.xe s2) :
    wpAny (model X.prog X.w) X.A (eval a X.env) (fun v s₁ => wpAny (model X.prog X.w) X.A (eval b X.env) (fun u s₂ => wpAny (model X.prog X.w) X.A (f v u) Q X.xe s₂) X.xe s₁) X.xe s := by
  refine thn (ha pins s σ H _ I h) fun v s1 ⟨x, H1, I1, r1, q1⟩ => ?_
  refine thn (hb pins s1 σ H1 _ I1 q1) fun u s2 ⟨y, H2, I2, r2, q2⟩ => ?_
  exact hf v u s2 x y H2 I2 r1 r2 q2

theorem pe_op {op : Operator} {r : R2} (ho : OpR X (binaryOp op) r) (ha : PE X a ta) (hb : PE X b tb) : PE X (.BinOp a op b pos) (tOp r ta tb) := by
  intro pins s σ H Q I h
  exact wpAny_BinOp (binT ha hb I h fun v u s2 x y H2 I2 rx ry q => ho pins s2 σ H2 x y v u Q I2 rx ry q)
theorem pe_un {op : UnaryOp} {r : V → Hp → VK → Prop} (ho : UnR X (unaryOp op) r) (ha : PE X a ta) : PE X (.UnaryOp op a pos) (tUn r ta) := by
  intro pins s σ H Q I h
  exact UnaryOp_ (thn (ha pins s σ H _ I h) fun v s1 ⟨x, H1, I1, r1, q1⟩ => ho pins s1 σ H1 x v Q I1 r1 q1)
/-- a op= e at a name: the name's slot i -/
theorem augR {op : Operator} {r : R2} (ho : OpR X (inplaceOp op) r) {pins : List (Addr × Obj)} {s : Shared} {σ : St} {H : Hp} {x y : V} {v u : Value} {Q : VK} (I : Inv X pins σ H s)
    (rx : RelV x v) (ry : RelV y u) (q : r x y H Q) : wpAny (model X.prog X.w) X.A (inplaceOp op v u) (EP X pins σ Q) X.xe s := ho pins s σ H x y v u Q I rx ry q

/-! ### ints -/
theorem opI {f : Value → Value → Sem Value} {C : Int → Int → Prop} {g : Int → Int → Int}
    (rule : ∀ (i j : Int) (t u : Tok) (s : Shared) (Q : Value → Shared → Prop) (E : Value → Shared → Prop), C i j → Q (.int (g i j) s.toks) { s with toks := s.toks + 1 } → wpAny (model X.prog X.w) X.A (f (.int i t) (.int j u)) Q E s) :
    OpR X f (rI C fun i j => .int (g i j)) := by
  intro pins s σ H x y v u Q I rx ry h
  obtain ⟨i, j, rfl, rfl, hc, q⟩ := h
  obtain ⟨t, rfl⟩ := rx
  obtain ⟨t', rfl⟩ := ry
  exact rule i j t t' s _ _ hc ⟨.int (g i j), H, I.tok _, ⟨_, rfl⟩, q⟩
theorem opI0 {f : Value → Value → Sem Value} {g : Int → Int → Int}
    (rule : ∀ (i j : Int) (t u : Tok) (s : Shared) (Q : Value → Shared → Prop) (E : Value → Shared → Prop), Q (.int (g i j) s.toks) { s with toks := s.toks + 1 } → wpAny (model X.prog X.w) X.A (f (.int i t) (.int j u)) Q E s) :
    OpR X f (rI0 fun i j => .int (g i j)) := by
  intro pins s σ H x y v u Q I rx ry h
  obtain ⟨i, j, rfl, rfl, q⟩ := h
  obtain ⟨t, rfl⟩ := rx
  obtain ⟨t', rfl⟩ := ry
  exact rule i j t t' s _ _ ⟨.int (g i j), H, I.tok _, ⟨_, rfl⟩, q⟩
theorem opB0 {f : Value → Value → Sem Value} {g : Int → Int → Bool}
    (rule : ∀ (i j : Int) (t u : Tok) (s : Shared) (Q : Value → Shared → Prop) (E : Value → Shared → Prop), Q (.bool (g i j)) s → wpAny (model X.prog X.w) X.A (f (.int i t) (.int j u)) Q E s) :
    OpR X f (rI0 fun i j => .bl (g i j)) := by
  intro pins s σ H x y v u Q I rx ry h
  obtain ⟨i, j, rfl, rfl, q⟩ := h
  obtain ⟨t, rfl⟩ := rx
  obtain ⟨t', rfl⟩ := ry
  exact rule i j t t' s _ _ ⟨.bl (g i j), H, I, rfl, q⟩

def CDiv (i j : Int) : Prop := 0 < j ∧ j < 1073741824
def CDivN (i j : Int) : Prop := j ≠ 0 ∧ j.natAbs < 1073741824
def CPow (i j : Int) : Prop := 0 ≤ j ∧ j ≤ 1000000 ∧ i.natAbs < 2 ^ 64
def CMul (i j : Int) : Prop := (-(2 ^ 64) < i ∧ i < 2 ^ 64) ∨ (-(2 ^ 64) < j ∧ j < 2 ^ 64)
theorem CMul.ok {i j : Int} (h : CMul i j) : IntMulOk i j := by
  rcases h with ⟨h1, h2⟩ | ⟨h1, h2⟩
  · exact .of_left (intBits_le_64 h1 h2)
  · exact .of_right (intBits_le_64 h1 h2)
theorem two_pow_nn (k : Nat) : (0 : Int) ≤ 2 ^ k := by
  rw [two_pow_cast]
  exact Int.natCast_nonneg _

theorem op_add : OpR X (binaryOp .Add) (rI0 fun i j => .int (i + j)) := opI0 fun _ _ _ _ _ _ _ q => add_int q
theorem op_sub : OpR X (binaryOp .Sub) (rI0 fun i j => .int (i - j)) := opI0 fun _ _ _ _ _ _ _ q => sub_int q
theorem op_mul : OpR X (binaryOp .Mult) (rI CMul fun i j => .int (i * j)) := opI fun _ _ _ _ _ _ _ hc q => mul_int q hc.ok
/-- // by a positive divisor -/
theorem op_fdiv : OpR X (binaryOp .FloorDiv) (rI CDiv fun i j => .int (i / j)) := opI fun i j _ _ _ _ _ hc q => by
  have h1 : (0 : Int) < j := hc.1
  have h2 : j < 1073741824 := hc.2
  exact floordiv_int (by omega) (by rw [Int.fdiv_eq_ediv_of_nonneg i (by omega)]; exact q) (.inl (PyProof.noPylong_small (by omega)))
theorem op_fdivN : OpR X (binaryOp .FloorDiv) (rI CDivN fun i j => .int (i.fdiv j)) := opI fun _ _ _ _ _ _ _ hc q => floordiv_int hc.1 q (.inl (PyProof.noPylong_small hc.2))
/-- % by a positive divisor of any size -/
theorem op_mod : OpR X (binaryOp .Mod) (rI (fun _ j => 0 < j) fun i j => .int (i % j)) := opI fun i j _ _ _ _ _ hc q => by
  have h1 : (0 : Int) < j := hc
  exact mod_int' (by omega) (by rw [Int.fmod_eq_emod_of_nonneg i (by omega)]; exact q)
theorem op_modN : OpR X (binaryOp .Mod) (rI (fun _ j => j ≠ 0) fun i j => .int (i.fmod j)) := opI fun _ _ _ _ _ _ _ hc q => mod_int' hc q
theorem op_pow : OpR X (binaryOp .Pow) (rI CPow fun i j => .int (i ^ j.toNat)) := opI fun _ _ _ _ _ _ _ hc q => pow_int_small hc.1 hc.2.1 hc.2.2 q
theorem op_shl : OpR X (binaryOp .LShift) (rI CPow fun i j => .int (i * 2 ^ j.toNat)) := opI fun _ _ _ _ _ _ _ hc q => lshift_int_small hc.1 hc.2.1 hc.2.2 q
theorem op_shr : OpR X (binaryOp .RShift) (rI (fun _ j => 0 ≤ j) fun i j => .int (i / 2 ^ j.toNat)) := opI fun i j _ _ _ _ _ hc q =>
  rshift_int hc (by rw [Int.fdiv_eq_ediv_of_nonneg i (two_pow_nn _)]; exact q)
theorem op_and : OpR X (binaryOp .BitAnd) (rI0 fun i j => .int (Builtin.bitAnd i j)) := opI0 fun _ _ _ _ _ _ _ q => and_int q
theorem op_or : OpR X (binaryOp .BitOr) (rI0 fun i j => .int (Builtin.bitOr i j)) := opI0 fun _ _ _ _ _ _ _ q => or_int q
theorem op_xor : OpR X (binaryOp .BitXor) (rI0 fun i j => .int (Builtin.bitXor i j)) := opI0 fun _ _ _ _ _ _ _ q => xor_int q

theorem iop_add : OpR X (inplaceOp .Add) (rI0 fun i j => .int (i + j)) := opI0 fun _ _ _ _ _ _ _ q => iadd_int q
theorem iop_sub : OpR X (inplaceOp .Sub) (rI0 fun i j => .int (i - j)) := opI0 fun _ _ _ _ _ _ _ q => isub_int q
theorem iop_mul : OpR X (inplaceOp .Mult) (rI CMul fun i j => .int (i * j)) := opI fun _ _ _ _ _ _ _ hc q => imul_int q hc.ok
theorem iop_fdiv : OpR X (inplaceOp .FloorDiv) (rI CDiv fun i j => .int (i / j)) := opI fun i j _ _ _ _ _ hc q => by
  have h1 : (0 : Int) < j := hc.1
  have h2 : j < 1073741824 := hc.2
  exact ifloordiv_int (by omega) (by rw [Int.fdiv_eq_ediv_of_nonneg i (by omega)]; exact q) (.inl (PyProof.noPylong_small (by omega)))
theorem iop_mod : OpR X (inplaceOp .Mod) (rI (fun _ j => 0 < j) fun i j => .int (i % j)) := opI fun i j _ _ _ _ _ hc q => by
  have h1 : (0 : Int) < j := hc
  exact imod_int (by omega) (by rw [Int.fmod_eq_emod_of_nonneg i (by omega)]; exact q)
theorem iop_shl : OpR X (inplaceOp .LShift) (rI CPow fun i j => .int (i * 2 ^ j.toNat)) := opI fun _ _ _ _ _ _ _ hc q => ilshift_int_small hc.1 hc.2.1 hc.2.2 q
theorem iop_shr : OpR X (inplaceOp .RShift) (rI (fun _ j => 0 ≤ j) fun i j => .int (i / 2 ^ j.toNat)) := opI fun i j _ _ _ _ _ hc q =>
  irshift_int hc (by rw [Int.fdiv_eq_ediv_of_nonneg i (two_pow_nn _)]; exact q)
theorem iop_and : OpR X (inplaceOp .BitAnd) (rI0 fun i j => .int (Builtin.bitAnd i j)) := opI0 fun _ _ _ _ _ _ _ q => iand_int q
theorem iop_or : OpR X (inplaceOp .BitOr) (rI0 fun i j => .int (Builtin.bitOr i j)) := opI0 fun _ _ _ _ _ _ _ q => ior_int q
theorem iop_xor : OpR X (inplaceOp .BitXor) (rI0 fun i j => .int (Builtin.bitXor i j)) := opI0 fun _ _ _ _ _ _ _ q => ixor_int q

theorem unI {f : Value → Sem Value} {g : Int → Int}
    (rule : ∀ (i : Int) (t : Tok) (s : Shared) (Q : Value → Shared → Prop) (E : Value → Shared → Prop), Q (.int (g i) s.toks) { s with toks := s.toks + 1 } → wpAny (model X.prog X.w) X.A (f (.int i t)) Q E s) :
    UnR X f (rU fun i => .int (g i)) := by
  intro pins s σ H x v Q I rx h
  obtain ⟨i, rfl, q⟩ := h
  obtain ⟨t, rfl⟩ := rx
  exact rule i t s _ _ ⟨.int (g i), H, I.tok _, ⟨_, rfl⟩, q⟩
theorem un_neg : UnR X (unaryOp .USub) (rU fun i => .int (-i)) := unI fun _ _ _ _ _ q => neg_int q
theorem un_inv : UnR X (unaryOp .Invert) (rU fun i => .int (Builtin.bitNot i)) := unI fun _ _ _ _ _ q => invert_int q

/-! ### bools among ints: n += (a < b) -/
theorem op_add_ib : OpR X (binaryOp .Add) (fun x y H Q => ∃ i k, x = .int i ∧ y = .bl k ∧ Q (.int (i + b2i k)) H) := by
  intro pins s σ H x y v u Q I rx ry h
  obtain ⟨i, k, rfl, rfl, q⟩ := h
  obtain ⟨t, rfl⟩ := rx
  cases ry
  exact add_int_bool ⟨.int (i + b2i k), H, I.tok _, ⟨_, rfl⟩, q⟩
end

/-! ### comparisons -/
/-- the scalars that == tells apart as data does -/
def scal : V → V → Bool
  | .non, .non => true | .non, .int _ => true | .int _, .non => true | .non, .bl _ => true | .bl _, .non => true | .non, .str _ => true | .str _, .non => true
  | .int _, .int _ => true | .bl _, .bl _ => true | .str _, .str _ => true | .byt _, .byt _ => true
  | .int _, .str _ => true | .str _, .int _ => true | .bl _, .str _ => true | .str _, .bl _ => true
  | _, _ => false
def rEq : R2 := fun x y H Q => scal x y = true ∧ Q (.bl (decide (x = y))) H
def rNe : R2 := fun x y H Q => scal x y = true ∧ Q (.bl (!decide (x = y))) H

theorem dec_int {i j : Int} : decide (V.int i = V.int j) = (i == j) := by
  rw [Bool.eq_iff_iff]
  simp
theorem dec_bl {i j : Bool} : decide (V.bl i = V.bl j) = (i == j) := by
  rw [Bool.eq_iff_iff]
  simp
theorem dec_str {i j : Str} : decide (V.str i = V.str j) = (i == j) := by
  rw [Bool.eq_iff_iff]
  simp
theorem dec_byt {i j : Array UInt8} : decide (V.byt i = V.byt j) = (i.toList == j.toList) := by
  rw [Bool.eq_iff_iff]
  cases i
  cases j
  simp

section
variable {X : Cx} {a b c : Expr} {ta tb tc : TE} {pos : Pos}
theorem fin_bl {pins : List (Addr × Obj)} {σ : St} {H : Hp} {s : Shared} {Q : VK} {k k' : Bool} (I : Inv X pins σ H s) (q : Q (.bl k) H) (e : k = k') : EP X pins σ Q (.bool k') s := by
  subst e
  exact ⟨.bl k, H, I, rfl, q⟩
theorem op_eq : OpR X (compareOp .Eq) rEq := by
  intro pins s σ H x y v u Q I rx ry h
  obtain ⟨hs, q⟩ := h
  cases x with
  | non =>
    cases rx
    cases y with
    | non => cases ry; exact PySem.EqNone.eq_none_none (fin_bl I q (by simp))
    | bl j => cases ry; exact PySem.EqNone.eq_none_bool (fin_bl I q (by simp))
    | int j => obtain ⟨t', rfl⟩ := ry; exact PySem.EqNone.eq_none_int (fin_bl I q (by simp))
    | str j => obtain ⟨t', rfl⟩ := ry; exact PySem.EqNone.eq_none_str (fin_bl I q (by simp))
    | _ => exact absurd (show false = true from hs) Bool.false_ne_true
  | bl i =>
    cases rx
    cases y with
    | non => cases ry; exact PySem.EqNone.eq_bool_none (fin_bl I q (by simp))
    | bl j => cases ry; exact eq_bool (fin_bl I q dec_bl)
    | str j => obtain ⟨t', rfl⟩ := ry; exact PySem.EqMixed.eq_bool_str (fin_bl I q (by simp))
    | _ => exact absurd (show false = true from hs) Bool.false_ne_true
  | int i =>
    obtain ⟨t, rfl⟩ := rx
    cases y with
    | non => cases ry; exact PySem.EqNone.eq_int_none (fin_bl I q (by simp))
    | int j => obtain ⟨t', rfl⟩ := ry; exact eq_int (fin_bl I q dec_int)
    | str j => obtain ⟨t', rfl⟩ := ry; exact PySem.EqMixed.eq_int_str (fin_bl I q (by simp))
    | _ => exact absurd (show false = true from hs) Bool.false_ne_true
  | str i =>
    obtain ⟨t, rfl⟩ := rx
    cases y with
    | non => cases ry; exact PySem.EqNone.eq_str_none (fin_bl I q (by simp))
    | bl j => cases ry; exact PySem.EqMixed.eq_str_bool (fin_bl I q (by simp))
    | int j => obtain ⟨t', rfl⟩ := ry; exact PySem.EqMixed.eq_str_int (fin_bl I q (by simp))
    | str j => obtain ⟨t', rfl⟩ := ry; exact eq_str (fin_bl I q dec_str)
    | _ => exact absurd (show false = true from hs) Bool.false_ne_true
  | byt i =>
    obtain ⟨t, rfl⟩ := rx
    cases y with
    | byt j => obtain ⟨t', rfl⟩ := ry; exact PySem.W.eq_bytes (fin_bl I q dec_byt)
    | _ => exact absurd (show false = true from hs) Bool.false_ne_true
  | _ => cases y <;> exact absurd (show false = true from hs) Bool.false_ne_true
theorem op_ne : OpR X (compareOp .NotEq) rNe := by
  intro pins s σ H x y v u Q I rx ry h
  obtain ⟨hs, q⟩ := h
  cases x with
  | non =>
    cases rx
    cases y with
    | non => cases ry; exact PySem.EqNone.ne_none_none (fin_bl I q (by simp))
    | bl j => cases ry; exact PySem.EqNone.ne_none_bool (fin_bl I q (by simp))
    | int j => obtain ⟨t', rfl⟩ := ry; exact PySem.EqNone.ne_none_int (fin_bl I q (by simp))
    | str j => obtain ⟨t', rfl⟩ := ry; exact PySem.EqNone.ne_none_str (fin_bl I q (by simp))
    | _ => exact absurd (show false = true from hs) Bool.false_ne_true
  | bl i =>
    cases rx
    cases y with
    | non => cases ry; exact PySem.EqNone.ne_bool_none (fin_bl I q (by simp))
    | bl j => cases ry; exact ne_bool (fin_bl I q (congrArg not dec_bl))
    | str j => obtain ⟨t', rfl⟩ := ry; exact PySem.EqMixed.ne_bool_str (fin_bl I q (by simp))
    | _ => exact absurd (show false = true from hs) Bool.false_ne_true
  | int i =>
    obtain ⟨t, rfl⟩ := rx
    cases y with
    | non => cases ry; exact PySem.EqNone.ne_int_none (fin_bl I q (by simp))
    | int j => obtain ⟨t', rfl⟩ := ry; exact ne_int (fin_bl I q (congrArg not dec_int))
    | str j => obtain ⟨t', rfl⟩ := ry; exact PySem.EqMixed.ne_int_str (fin_bl I q (by simp))
    | _ => exact absurd (show false = true from hs) Bool.false_ne_true
  | str i =>
    obtain ⟨t, rfl⟩ := rx
    cases y with
    | non => cases ry; exact PySem.EqNone.ne_str_none (fin_bl I q (by simp))
    | bl j => cases ry; exact PySem.EqMixed.ne_str_bool (fin_bl I q (by simp))
    | int j => obtain ⟨t', rfl⟩ := ry; exact PySem.EqMixed.ne_str_int (fin_bl I q (by simp))
    | str j => obtain ⟨t', rfl⟩ := ry; exact ne_str (fin_bl I q (congrArg not dec_str))
    | _ => exact absurd (show false = true from hs) Bool.false_ne_true
  | byt i =>
    obtain ⟨t, rfl⟩ := rx
    cases y with
    | byt j => obtain ⟨t', rfl⟩ := ry; exact PySem.W.ne_bytes (fin_bl I q (congrArg not dec_byt))
    | _ => exact absurd (show false = true from hs) Bool.false_ne_true
  | _ => cases y <;> exact absurd (show false = true from hs) Bool.false_ne_true

theorem op_lt : OpR X (compareOp .Lt) (rI0 fun i j => .bl (decide (i < j))) := opB0 fun _ _ _ _ _ _ _ q => lt_int q
theorem op_le : OpR X (compareOp .LtE) (rI0 fun i j => .bl (decide (i ≤ j))) := opB0 fun _ _ _ _ _ _ _ q => le_int q
theorem op_gt : OpR X (compareOp .Gt) (rI0 fun i j => .bl (decide (j < i))) := opB0 fun _ _ _ _ _ _ _ q => gt_int q
theorem op_ge : OpR X (compareOp .GtE) (rI0 fun i j => .bl (decide (j ≤ i))) := opB0 fun _ _ _ _ _ _ _ q => ge_int q
theorem op_lt_str : OpR X (compareOp .Lt) (fun x y H Q => ∃ i j, x = .str i ∧ y = .str j ∧ Q (.bl (decide (i.cps.toList < j.cps.toList))) H) := by
  intro pins s σ H x y v u Q I rx ry h
  obtain ⟨i, j, rfl, rfl, q⟩ := h
  obtain ⟨t, rfl⟩ := rx
  obtain ⟨t', rfl⟩ := ry
  exact lt_str (fin_bl I q rfl)
/-- the one string within the other -/
theorem op_in_str : OpR X (compareOp .In) (fun x y H Q => ∃ i j, x = .str i ∧ y = .str j ∧ Q (.bl (!(Builtin.Str.occurrences j i 0 j.length 1).isEmpty)) H) := by
  intro pins s σ H x y v u Q I rx ry h
  obtain ⟨i, j, rfl, rfl, q⟩ := h
  obtain ⟨t, rfl⟩ := rx
  obtain ⟨t', rfl⟩ := ry
  exact in_str (fin_bl I q rfl)

/-- is None, is not None: the right side a value none -/
theorem op_isN : OpR X (compareOp .Is) (fun x y H Q => y = .non ∧ Q (.bl (decide (x = .non))) H) := by
  intro pins s σ H x y v u Q I rx ry h
  obtain ⟨rfl, q⟩ := h
  cases ry
  refine is_none_gen (fin_bl I q ?_)
  cases x <;> first
    | (cases rx; rfl)
    | (obtain ⟨t, rfl⟩ := rx; rfl)
theorem op_notN : OpR X (compareOp .IsNot) (fun x y H Q => y = .non ∧ Q (.bl (!decide (x = .non))) H) := by
  intro pins s σ H x y v u Q I rx ry h
  obtain ⟨rfl, q⟩ := h
  cases ry
  refine isnot_none_gen (fin_bl I q ?_)
  cases x <;> first
    | (cases rx; rfl)
    | (obtain ⟨t, rfl⟩ := rx; rfl)

theorem op_notin_str : OpR X (compareOp .NotIn) (fun x y H Q => ∃ i j, x = .str i ∧ y = .str j ∧ Q (.bl (!(!(Builtin.Str.occurrences j i 0 j.length 1).isEmpty))) H) := by
  intro pins s σ H x y v u Q I rx ry h
  obtain ⟨i, j, rfl, rfl, q⟩ := h
  obtain ⟨t, rfl⟩ := rx
  obtain ⟨t', rfl⟩ := ry
  exact notIn_str (fin_bl I q rfl)
/-- is, is not of two objects that are tracked lists or instances -/
def isObj : HO → Bool
  | .lst _ => true
  | .ins _ _ _ => true
  | _ => false
theorem obj_there {pins : List (Addr × Obj)} {s : Shared} {σ : St} {H : Hp} {a : Addr} {o : HO} (I : Inv X pins σ H s) (h : H a = some o) (p : isObj o = true) : ∃ ob, s.heap.get? a = some ob ∧ ob.cls ≠ .type "tuple" := by
  cases o with
  | lst xs =>
    obtain ⟨_, its, n, _, e⟩ : xs.length ≤ sizeLine ∧ ∃ (its : List Value) (n : Nat), Vals xs its ∧ s.heap.get? a = some { cls := .type "list", data := .seq its.toArray n } := I.hok a _ h
    exact ⟨_, e, (by show Value.type "list" ≠ .type "tuple"; decide +kernel)⟩
  | ins C dx fs =>
    have x := I.hok a _ h
    obtain ⟨_, _, _, e, _⟩ := x
    exact ⟨_, e, (by show Value.ref C ≠ .type "tuple"; exact fun z => by cases z)⟩
  | _ => exact absurd (show false = true from p) Bool.false_ne_true
theorem op_is_ref : OpR X (compareOp .Is) (fun x y H Q => ∃ a b oa ob, x = .ref a ∧ y = .ref b ∧ H a = some oa ∧ isObj oa = true ∧ H b = some ob ∧ isObj ob = true ∧ Q (.bl (decide (a = b))) H) := by
  intro pins s σ H x y v u Q I rx ry h
  obtain ⟨a, b, oa, ob, rfl, rfl, ha, pa, hb, pb, q⟩ := h
  cases rx
  cases ry
  obtain ⟨o1, e1, n1⟩ := obj_there I ha pa
  obtain ⟨o2, e2, _⟩ := obj_there I hb pb
  by_cases z : a = b
  · subst z
    exact wpAny_is_ref_self (fin_bl I q (by simp))
  · exact wpAny_is_ref_other z e1 e2 n1 (fin_bl I q (by simp [z]))
theorem op_isnot_ref : OpR X (compareOp .IsNot) (fun x y H Q => ∃ a b oa ob, x = .ref a ∧ y = .ref b ∧ H a = some oa ∧ isObj oa = true ∧ H b = some ob ∧ isObj ob = true ∧ Q (.bl (!decide (a = b))) H) := by
  intro pins s σ H x y v u Q I rx ry h
  obtain ⟨a, b, oa, ob, rfl, rfl, ha, pa, hb, pb, q⟩ := h
  cases rx
  cases ry
  obtain ⟨o1, e1, n1⟩ := obj_there I ha pa
  obtain ⟨o2, e2, _⟩ := obj_there I hb pb
  by_cases z : a = b
  · subst z
    exact wpAny_isNot_ref_self (fin_bl I q (by simp))
  · exact wpAny_isNot_ref_other z e1 e2 n1 (fin_bl I q (by simp [z]))

/-- two rules for one operation: by cases -/
theorem OpR.or {f : Value → Value → Sem Value} {r r' : R2} (h : OpR X f r) (h' : OpR X f r') : OpR X f (fun x y H Q => r x y H Q ∨ r' x y H Q) := by
  intro pins s σ H x y v u Q I rx ry q
  rcases q with q | q
  · exact h pins s σ H x y v u Q I rx ry q
  · exact h' pins s σ H x y v u Q I rx ry q

theorem nomark (b : Expr) {op : CmpOp} (h : op ≠ .In := by decide) (h2 : op ≠ .NotIn := by decide) : behindInMarks op b = false := by
  have e1 : (op == CmpOp.In) = false := by cases op <;> first | rfl | exact absurd rfl h
  have e2 : (op == CmpOp.NotIn) = false := by cases op <;> first | rfl | exact absurd rfl h2
  cases b <;> simp [behindInMarks, e1, e2]
/-- a comparison as a value; hm: nomark b, or (for in, not in) by with_unfolding_all rfl -/
theorem pe_cmpR {op : CmpOp} {r : R2} (ho : OpR X (compareOp op) r) (ha : PE X a ta) (hb : PE X b tb) (hm : behindInMarks op b = false) : PE X (.Compare a [op] [b] pos) (tOp r ta tb) := by
  intro pins s σ H Q I h
  exact wpAny_Compare1 (binT ha hb I h fun v u s2 x y H2 I2 rx ry q => ho pins s2 σ H2 x y v u Q I2 rx ry q) hm
/-- a reading of a value as a test -/
def tTest (t : TE) : TT := fun σ H Q => t σ H fun x H' => ∃ k, x = .bl k ∧ Q k H'
theorem pt_cmpR {op : CmpOp} {r : R2} (ho : OpR X (compareOp op) r) (ha : PE X a ta) (hb : PE X b tb) (hm : behindInMarks op b = false) : PT X (.Compare a [op] [b] pos) (tTest (tOp r ta tb)) := by
  intro pins s σ H Q I h
  refine wpAny_isTrue_Compare1 (thn (ha pins s σ H _ I h) fun v s1 ⟨x, H1, I1, r1, q1⟩ => thn (hb pins s1 σ H1 _ I1 q1) fun u s2 ⟨y, H2, I2, r2, q2⟩ =>
    thn (ho pins s2 σ H2 x y v u _ I2 r1 r2 q2) fun c s3 ⟨z, H3, I3, r3, k, e, q3⟩ => ?_) hm
  subst e
  cases r3
  exact wpAny_truthy_bool ⟨H3, I3, q3⟩
/-- a op1 b op2 c -/
def tChain (r r' : R2) (ta tb tc : TE) : TE := fun σ H Q => ta σ H fun x H1 => tb σ H1 fun y H2 => r x y H2 fun z H3 => ∃ k, z = .bl k ∧
  (if k = true then tc σ H3 fun w' H4 => r' y w' H4 Q else Q (.bl false) H3)
theorem pe_chain {op op' : CmpOp} {r r' : R2} (ho : OpR X (compareOp op) r) (ho' : OpR X (compareOp op') r') (ha : PE X a ta) (hb : PE X b tb) (hc : PE X c tc)
    (hm : lastMarks [op, op'] [b, c] = false := by with_unfolding_all rfl) : PE X (.Compare a [op, op'] [b, c] pos) (tChain r r' ta tb tc) := by
  intro pins s σ H Q I h
  refine Compare_chain (thn (ha pins s σ H _ I h) fun v s1 ⟨x, H1, I1, r1, q1⟩ => chain_link (thn (hb pins s1 σ H1 _ I1 q1) fun u s2 ⟨y, H2, I2, r2, q2⟩ =>
    thn (ho pins s2 σ H2 x y v u _ I2 r1 r2 q2) fun d s3 ⟨z, H3, I3, r3, k, e, q3⟩ => ?_)) hm
  subst e
  cases r3
  refine wpAny_truthy_bool ?_
  cases k with
  | false => exact ite_ff ⟨.bl false, H3, I3, rfl, q3⟩
  | true => exact ite_tt (chain_last (thn (hc pins s3 σ H3 _ I3 q3) fun w' s4 ⟨z', H4, I4, r4, q4⟩ => ho' pins s4 σ H4 y z' u w' Q I4 r2 r4 q4))
theorem pt_chain {op op' : CmpOp} {r r' : R2} (ho : OpR X (compareOp op) r) (ho' : OpR X (compareOp op') r') (ha : PE X a ta) (hb : PE X b tb) (hc : PE X c tc)
    (hm : lastMarks [op, op'] [b, c] = false := by with_unfolding_all rfl) : PT X (.Compare a [op, op'] [b, c] pos) (tTest (tChain r r' ta tb tc)) := by
  intro pins s σ H Q I h
  refine isTrue_chain (thn (ha pins s σ H _ I h) fun v s1 ⟨x, H1, I1, r1, q1⟩ => test_link (thn (hb pins s1 σ H1 _ I1 q1) fun u s2 ⟨y, H2, I2, r2, q2⟩ =>
    thn (ho pins s2 σ H2 x y v u _ I2 r1 r2 q2) fun d s3 ⟨z, H3, I3, r3, k, e, q3⟩ => ?_)) hm
  subst e
  cases r3
  refine wpAny_truthy_bool ?_
  cases k with
  | false =>
    obtain ⟨k', e', q'⟩ := q3
    cases e'
    exact ite_ff ⟨H3, I3, q'⟩
  | true =>
    refine ite_tt (test_last (thn (hc pins s3 σ H3 _ I3 q3) fun w' s4 ⟨z', H4, I4, r4, q4⟩ => thn (ho' pins s4 σ H4 y z' u w' _ I4 r2 r4 q4) fun d' s5 ⟨z2, H5, I5, r5, k2, e2, q5⟩ => ?_))
    subst e2
    cases r5
    exact wpAny_truthy_bool ⟨H5, I5, q5⟩

/-! ### truth -/
/-- a value's truth by the abstract heap -/
def TruV (K : PySem.W.Frag) (x : V) (H : Hp) (k : Bool) : Prop :=
  match x with
  | .non => k = false
  | .bl b => k = b
  | .int i => k = (i != 0)
  | .str y => y.length ≤ sizeLine ∧ k = ((y.length : Int) != 0)
  | .byt y => y.size ≤ sizeLine ∧ k = ((y.size : Int) != 0)
  | .ref p => (∃ xs, SqL K H p xs ∧ k = !xs.isEmpty) ∨ (∃ xs, SqT K H p xs ∧ k = !xs.isEmpty) ∨ ∃ kvs, H p = some (.dK kvs) ∧ k = !kvs.isEmpty
  | _ => False
theorem isEmpty_kv {κ : Type} {kvs : List (κ × V)} {vs : List (κ × Value)} (r : KV kvs vs) : (!vs.isEmpty) = !kvs.isEmpty := by
  cases r <;> rfl
theorem isEmpty_of {xs : List V} {its : List Value} (r : Vals xs its) : (!its.toArray.isEmpty) = !xs.isEmpty := by
  cases r <;> simp
theorem line63 : (sizeLine : Nat) < 2 ^ 63 := by rw [sizeLine_eq]; decide
theorem tru_ok : TruR X (fun x H Q => ∃ k, TruV X.K x H k ∧ Q k H) := by
  intro pins s σ H x v Q I rx h
  obtain ⟨k, e, q⟩ := h
  have hl := line63
  have hs : sizeLine = 16777216 := sizeLine_eq
  cases x with
  | non =>
    cases rx
    have e' : k = false := e
    subst e'
    exact truthy_none ⟨H, I, q⟩
  | bl b =>
    cases rx
    have e' : k = b := e
    subst e'
    exact wpAny_truthy_bool ⟨H, I, q⟩
  | int i =>
    obtain ⟨t, rfl⟩ := rx
    have e' : k = (i != 0) := e
    subst e'
    exact PySem.P.truthy_int ⟨H, I, q⟩
  | str y =>
    obtain ⟨t, rfl⟩ := rx
    obtain ⟨hy, e'⟩ : y.length ≤ sizeLine ∧ k = ((y.length : Int) != 0) := e
    subst e'
    exact PySem.P.truthy_str (by omega) ⟨H, I.tok _, q⟩
  | byt y =>
    obtain ⟨t, rfl⟩ := rx
    obtain ⟨hy, e'⟩ : y.size ≤ sizeLine ∧ k = ((y.size : Int) != 0) := e
    subst e'
    exact PySem.W.truthy_bytes (by omega) ⟨H, I.tok _, q⟩
  | ref p =>
    cases rx
    have e' : (∃ xs, SqL X.K H p xs ∧ k = !xs.isEmpty) ∨ (∃ xs, SqT X.K H p xs ∧ k = !xs.isEmpty) ∨ ∃ kvs, H p = some (.dK kvs) ∧ k = !kvs.isEmpty := e
    rcases e' with ⟨xs, hx, e'⟩ | ⟨xs, hx, e'⟩ | ⟨kvs, hx, e'⟩
    · subst e'
      obtain ⟨its, r, pl, hz⟩ := I.list hx
      have hlen := r.length
      exact wpAny_truthy_list pl.isList (by simp only [List.size_toArray]; omega) ⟨H, I.tok _, by rw [isEmpty_of r]; exact q⟩
    · subst e'
      obtain ⟨its, r, pl, hz⟩ := I.tuple hx
      have hlen := r.length
      exact truthy_tuple pl (by simp only [List.size_toArray]; omega) ⟨H, I.tok _, by rw [isEmpty_of r]; exact q⟩
    · subst e'
      obtain ⟨hz, hS, vs, r, m⟩ : kvs.length ≤ sizeLine ∧ (p == sysModules) = false ∧ ∃ vs, KV kvs vs ∧ s.heap.DictOf (mixKind X.prog X.w) p vs := I.hok p _ hx
      have hlen : kvs.length = vs.length := Paired.length r
      exact wpAny_truthy_dict hS m (by omega) ⟨H, I.tok _, by rw [isEmpty_kv r]; exact q⟩
  | _ => exact (show False from e).elim
/-- any expression whose test is its value's truth (a name, a call, a subscript, a field ..: he by fun _ => rfl) -/
theorem pt_truth (ha : PE X a ta) (he : ∀ whole, isTrue a X.env whole = (do let v ← whole; standAt a.pos; holding [v] (truthy v))) :
    PT X a (fun σ H Q => ta σ H fun x H' => ∃ k, TruV X.K x H' k ∧ Q k H') := by
  intro pins s σ H Q I h
  exact isTrue_plain (thn (ha pins s σ H _ I h) fun v s1 ⟨x, H1, I1, r1, q1⟩ => tru_ok pins s1 σ H1 x v Q I1 r1 q1) (he _)

/-! ### strs and bytes -/
theorem pe_byt {x : List UInt8} {k : Nat} : PE X (.Constant (.bytes x) k pos) (fun _ H Q => Q (.byt x.toArray) H) := fun _ _ _ H _ I h => PySem.W.Constant_bytes ⟨.byt x.toArray, H, I.tok _, ⟨_, rfl⟩, h⟩
theorem op_add_str : OpR X (binaryOp .Add) (fun x y H Q => ∃ i j, x = .str i ∧ y = .str j ∧ i.length + j.length ≤ sizeLine ∧ Q (.str (i ++ j)) H) := by
  intro pins s σ H x y v u Q I rx ry h
  obtain ⟨i, j, rfl, rfl, hz, q⟩ := h
  obtain ⟨t, rfl⟩ := rx
  obtain ⟨t', rfl⟩ := ry
  exact add_str (fun t' tk => ⟨.str (i ++ j), H, I.tok _, ⟨_, rfl⟩, q⟩) hz
theorem iop_add_str : OpR X (inplaceOp .Add) (fun x y H Q => ∃ i j, x = .str i ∧ y = .str j ∧ i.length + j.length ≤ sizeLine ∧ Q (.str (i ++ j)) H) := by
  intro pins s σ H x y v u Q I rx ry h
  obtain ⟨i, j, rfl, rfl, hz, q⟩ := h
  obtain ⟨t, rfl⟩ := rx
  obtain ⟨t', rfl⟩ := ry
  exact iadd_str (fun t' tk => ⟨.str (i ++ j), H, I.tok _, ⟨_, rfl⟩, q⟩) hz
theorem op_add_byt : OpR X (binaryOp .Add) (fun x y H Q => ∃ i j, x = .byt i ∧ y = .byt j ∧ i.size + j.size ≤ 16777216 ∧ Q (.byt (i ++ j)) H) := by
  intro pins s σ H x y v u Q I rx ry h
  obtain ⟨i, j, rfl, rfl, hz, q⟩ := h
  obtain ⟨t, rfl⟩ := rx
  obtain ⟨t', rfl⟩ := ry
  exact PySem.W.KBy.add_bytes hz (fun t' tk => ⟨.byt (i ++ j), H, I.tok _, ⟨_, rfl⟩, q⟩)

def PlainIxT (b : Expr) : Prop := ∀ o i, subscripted b false o i = operate [o, i] (getItem o i)
/-- s[i], 0 ≤ i < len -/
theorem pe_item_str (ha : PE X a ta) (hb : PE X b tb) (hs : PlainIxT b) :
    PE X (.Subscript a b pos) (tOp (fun x y H Q => ∃ z i c, x = .str z ∧ y = .int i ∧ 0 ≤ i ∧ i < 2 ^ 63 ∧ i < z.length ∧ z.cps[i.toNat]? = some c ∧ Q (.str ⟨#[c]⟩) H) ta tb) := by
  intro pins s σ H Q I h
  refine Subscript_ (binT ha hb I h fun v u s2 x y H2 I2 rx ry q => ?_)
  obtain ⟨z, i, c, rfl, rfl, h0, h63, h1, hc, q⟩ := q
  obtain ⟨t, rfl⟩ := rx
  obtain ⟨t', rfl⟩ := ry
  have e : seqIndex? i z.length = some i.toNat := PySem.StrLaws.seqIndex_nonneg h0 h1
  exact tail_any (typeIs_str s2 z t) slot_str_getitem.lookup (getItem_str (c := c) (by
    have e1 : decide (i < -(2 ^ 63 : Int)) = false := decide_eq_false (by omega)
    have e2 : decide (i ≥ 2 ^ 63) = false := decide_eq_false (by omega)
    rw [e1, e2] <;> rfl) (by rw [e]; exact hc) ⟨.str ⟨#[c]⟩, H2, I2.tok _, ⟨_, rfl⟩, q⟩) (hs _ _)
/-- b[i], 0 ≤ i < len -/
theorem pe_item_byt (ha : PE X a ta) (hb : PE X b tb) (hs : PlainIxT b) :
    PE X (.Subscript a b pos) (tOp (fun x y H Q => ∃ (z : List UInt8) (i : Int), x = .byt z.toArray ∧ y = .int i ∧ z.length ≤ sizeLine ∧ 0 ≤ i ∧ i < z.length ∧ Q (.int ((z.getD i.toNat 0).toNat : Nat)) H) ta tb) := by
  intro pins s σ H Q I h
  refine Subscript_ (binT ha hb I h fun v u s2 x y H2 I2 rx ry q => ?_)
  obtain ⟨z, i, rfl, rfl, hz, h0, h1, q⟩ := q
  obtain ⟨t, rfl⟩ := rx
  obtain ⟨t', rfl⟩ := ry
  have hl : sizeLine = 16777216 := sizeLine_eq
  exact tail_any (PySem.W.typeIs_bytes s2 z.toArray t) PySem.W.FB.slot_bytes_getitem.lookup (PySem.W.getItem_bytes (by omega) h0 h1 ⟨.int ((z.getD i.toNat 0).toNat : Nat), H2, I2.tok _, ⟨_, rfl⟩, q⟩) (hs _ _)

/-! ### scalar builtins, by CallR -/
theorem vals1 {x : V} {us : List Value} (r : Vals [x] us) : ∃ u, us = [u] ∧ RelV x u := by
  cases r with
  | cons r1 r2 => cases r2; exact ⟨_, rfl, r1⟩
theorem vals2 {x y : V} {us : List Value} (r : Vals [x, y] us) : ∃ u w', us = [u, w'] ∧ RelV x u ∧ RelV y w' := by
  cases r with
  | cons r1 r2 =>
    cases r2 with
    | cons r3 r4 => cases r4; exact ⟨_, _, rfl, r1, r3⟩
theorem call_abs : CallR X (.builtin "abs") (fun xs H Q => ∃ i, xs = [.int i] ∧ Q (.int (if i < 0 then -i else i)) H) := by
  intro pins s σ H xs us Q I r h
  obtain ⟨i, rfl, q⟩ := h
  obtain ⟨u, rfl, t, rfl⟩ := vals1 r
  exact call_abs_int fun u tk => ⟨.int (if i < 0 then -i else i), H, I.tok _, ⟨_, rfl⟩, q⟩
theorem call_max2 (hc : X.calm = true) : CallR X (.builtin "max") (fun xs H Q => ∃ i j, xs = [.int i, .int j] ∧ Q (.int (if j > i then j else i)) H) := by
  intro pins s σ H xs us Q I r h
  obtain ⟨i, j, rfl, q⟩ := h
  obtain ⟨u, w', rfl, ⟨t, rfl⟩, ⟨t', rfl⟩⟩ := vals2 r
  refine max_two_ints (I.ok.hd hc) fun h' tk k => ⟨_, H, I.kept k, ?_, q⟩
  by_cases hj : j > i
  · rw [if_pos hj, if_pos hj]; exact ⟨_, rfl⟩
  · rw [if_neg hj, if_neg hj]; exact ⟨_, rfl⟩
theorem call_min2 (hc : X.calm = true) : CallR X (.builtin "min") (fun xs H Q => ∃ i j, xs = [.int i, .int j] ∧ Q (.int (if j < i then j else i)) H) := by
  intro pins s σ H xs us Q I r h
  obtain ⟨i, j, rfl, q⟩ := h
  obtain ⟨u, w', rfl, ⟨t, rfl⟩, ⟨t', rfl⟩⟩ := vals2 r
  refine min_two_ints (I.ok.hd hc) fun h' tk k => ⟨_, H, I.kept k, ?_, q⟩
  by_cases hj : j < i
  · rw [if_pos hj, if_pos hj]; exact ⟨_, rfl⟩
  · rw [if_neg hj, if_neg hj]; exact ⟨_, rfl⟩
theorem call_int1 : CallR X (.type "int") (fun xs H Q => (∃ i, xs = [.int i] ∧ Q (.int i) H) ∨ ∃ k, xs = [.bl k] ∧ Q (.int (if k then 1 else 0)) H) := by
  intro pins s σ H xs us Q I r h
  rcases h with ⟨i, rfl, q⟩ | ⟨k, rfl, q⟩
  · obtain ⟨u, rfl, t, rfl⟩ := vals1 r
    exact call_int_int ⟨.int i, H, I, ⟨_, rfl⟩, q⟩
  · obtain ⟨u, rfl, r1⟩ := vals1 r
    cases r1
    exact call_int_bool ⟨.int (if k then 1 else 0), H, I.tok _, ⟨_, rfl⟩, q⟩
theorem call_bool1 : CallR X (.type "bool") (fun xs H Q => (∃ i, xs = [.int i] ∧ Q (.bl (i != 0)) H) ∨ ∃ k, xs = [.bl k] ∧ Q (.bl k) H) := by
  intro pins s σ H xs us Q I r h
  rcases h with ⟨i, rfl, q⟩ | ⟨k, rfl, q⟩
  · obtain ⟨u, rfl, t, rfl⟩ := vals1 r
    exact call_bool_int ⟨.bl (i != 0), H, I, rfl, q⟩
  · obtain ⟨u, rfl, r1⟩ := vals1 r
    cases r1
    exact call_bool_bool ⟨.bl k, H, I, rfl, q⟩
theorem call_str_int : CallR X (.type "str") (fun xs H Q => ∃ i, xs = [.int i] ∧ i.natAbs.log2 < 1920 ∧ Q (.str (toString i)) H) := by
  intro pins s σ H xs us Q I r h
  obtain ⟨i, rfl, hz, q⟩ := h
  obtain ⟨u, rfl, t, rfl⟩ := vals1 r
  exact PySem.P.str_of_int hz ⟨.str _, H, I.tok _, ⟨_, rfl⟩, q⟩
theorem call_ord : CallR X (.builtin "ord") (fun xs H Q => ∃ x, xs = [.str x] ∧ x.length = 1 ∧ Q (.int (x.cps.getD 0 0 : Nat)) H) := by
  intro pins s σ H xs us Q I r h
  obtain ⟨x, rfl, hz, q⟩ := h
  obtain ⟨u, rfl, t, rfl⟩ := vals1 r
  exact ord_of_one hz ⟨.int _, H, I.tok _, ⟨_, rfl⟩, q⟩
theorem call_chr : CallR X (.builtin "chr") (fun xs H Q => ∃ i, xs = [.int i] ∧ 0 ≤ i ∧ i ≤ 1114111 ∧ Q (.str ⟨#[i.toNat]⟩) H) := by
  intro pins s σ H xs us Q I r h
  obtain ⟨i, rfl, h0, h1, q⟩ := h
  obtain ⟨u, rfl, t, rfl⟩ := vals1 r
  exact chr_of_range h0 h1 ⟨.str _, H, I.tok _, ⟨_, rfl⟩, q⟩
/-- len of a str, a bytes, a list, a tuple -/
def LenV (K : PySem.W.Frag) (x : V) (H : Hp) (n : Nat) : Prop :=
  match x with
  | .str y => y.length ≤ sizeLine ∧ n = y.length
  | .byt y => y.size ≤ sizeLine ∧ n = y.size
  | .ref p => (∃ xs, SqL K H p xs ∧ n = xs.length) ∨ ∃ xs, SqT K H p xs ∧ n = xs.length
  | _ => False
theorem call_len : CallR X (.builtin "len") (fun xs H Q => ∃ x n, xs = [x] ∧ LenV X.K x H n ∧ Q (.int n) H) := by
  intro pins s σ H xs us Q I r h
  obtain ⟨x, n, rfl, e, q⟩ := h
  obtain ⟨u, rfl, rx⟩ := vals1 r
  have hl := line63
  have hs : sizeLine = 16777216 := sizeLine_eq
  cases x with
  | str y =>
    obtain ⟨t, rfl⟩ := rx
    obtain ⟨hy, e'⟩ : y.length ≤ sizeLine ∧ n = y.length := e
    subst e'
    exact len_str (by omega) ⟨.int _, H, I.tok _, ⟨_, rfl⟩, q⟩
  | byt y =>
    obtain ⟨t, rfl⟩ := rx
    obtain ⟨hy, e'⟩ : y.size ≤ sizeLine ∧ n = y.size := e
    subst e'
    exact PySem.W.len_bytes (by omega) ⟨.int _, H, I.tok _, ⟨_, rfl⟩, q⟩
  | ref p =>
    cases rx
    have e' : (∃ xs, SqL X.K H p xs ∧ n = xs.length) ∨ ∃ xs, SqT X.K H p xs ∧ n = xs.length := e
    rcases e' with ⟨xs, hx, e'⟩ | ⟨xs, hx, e'⟩
    · subst e'
      obtain ⟨its, r', pl, hz⟩ := I.list hx
      have hlen := r'.length
      exact Calls.call_len_list pl.isList (by simp only [List.size_toArray]; omega) ⟨.int xs.length, H, I.tok _, ⟨_, by simp only [List.size_toArray]; rw [hlen]⟩, q⟩
    · subst e'
      obtain ⟨its, r', pl, hz⟩ := I.tuple hx
      have hlen := r'.length
      exact len_tuple pl (by simp only [List.size_toArray]; omega) ⟨.int xs.length, H, I.tok _, ⟨_, by simp only [List.size_toArray]; rw [hlen]⟩, q⟩
  | _ => exact (show False from e).elim
/-- divmod: a new tuple -/
theorem call_divmod : CallR X (.builtin "divmod") (fun xs H Q => ∃ i j, xs = [.int i, .int j] ∧ CDiv i j ∧ ∀ p, H p = none → Q (.ref p) (upd H p (.tup [.int (i / j), .int (i % j)]))) := by
  intro pins s σ H xs us Q I r h
  obtain ⟨i, j, rfl, ⟨h1, h2⟩, q⟩ := h
  obtain ⟨u, w', rfl, ⟨t, rfl⟩, ⟨t', rfl⟩⟩ := vals2 r
  refine divmod_int (by omega) ?_ (.inl (PyProof.noPylong_small (by omega)))
  rw [Int.fdiv_eq_ediv_of_nonneg i (by omega), Int.fmod_eq_emod_of_nonneg i (by omega)]
  have hn : H s.heap.objs.size = none := I.hok.fresh (Nat.le_refl _)
  refine ⟨.ref s.heap.objs.size, _, ?_, rfl, q _ hn⟩
  refine I.laid (fun b o e => Heap.get?_push_of_some _ e) (Nat.le_refl _) ⟨by simp only [List.length_cons, List.length_nil]; rw [sizeLine_eq]; decide, [.int (i / j) s.toks, .int (i % j) (s.toks + 1)], .cons ⟨_, rfl⟩ (.cons ⟨_, rfl⟩ .nil), ?_⟩
  exact ⟨_, Heap.get?_push_size s.heap rfl, rfl, 0, rfl⟩
end
end L2

namespace L2
open PySem PySem.Spec PyProof.Rows

/-! ### an instance, its attributes a map -/
structure ObjM (h : Heap) (x dx C : Addr) (mA : Str → Option Value) : Prop where
  obj : h.get? x = some (PySem.W.instObj C dx)
  ns : h.Ns1 dx mA
  ne : dx ≠ x

theorem lookIn_ns {h : Heap} {dx : Addr} {mA : Str → Option Value} (n : h.Ns1 dx mA) : ∃ od, h.get? dx = some od ∧ ∀ name, PySem.W.lookIn name od = some (mA name) := by
  obtain ⟨o, es, ep, ho, hd, hk, _, hm⟩ := n
  refine ⟨o, ho, fun name => ?_⟩
  have e := hm name
  unfold nsFind findBy at e
  rw [← Array.find?_toList] at e
  unfold PySem.W.lookIn
  rw [hd]
  dsimp only
  split
  · rename_i y q
    rw [q] at e
    exact congrArg some e
  · rename_i q
    rw [q] at e
    have a : es.toList.any (·.refKey) = false := by
      rw [List.any_eq_false]
      intro y hy
      obtain ⟨z, t, hkey⟩ := hk y (Array.mem_toList_iff.mp hy)
      simp [DictEntry.refKey, hkey]
    have a' : ¬ es.toList.any (·.refKey) = true := by rw [a]; exact Bool.false_ne_true
    rw [if_neg a']
    exact congrArg some e

theorem ObjM.look {h : Heap} {x dx C : Addr} {mA : Str → Option Value} (I : ObjM h x dx C mA) : ∃ od, PySem.W.InstAt h x (PySem.W.instObj C dx) C (some od) ∧ ∀ name, PySem.W.lookIn name od = some (mA name) :=
  let ⟨od, ho, hl⟩ := lookIn_ns I.ns
  ⟨od, ⟨I.obj, rfl, rfl, ho⟩, hl⟩

section
variable {prog : Program} {w : World} {A : Around} {E : Value → Shared → Prop} {s : Shared} {K : PySem.W.Frag} {x dx C f : Addr} {mA : Str → Option Value} {name : Str} {v : Value}

theorem get_map {expr : Bool} {Q : Value → Shared → Prop} (X : K.In s.heap) (I : ObjM s.heap x dx C mA) (hg : PySem.W.plainGet K C name = true) (hh : PySem.W.hasDictIn K C = true)
    (ha : PySem.W.findIn K (.ref C) name = some none) (hv : mA name = some v) (hv' : PySem.W.handedIn v = true) (h : Q v { s with toks := s.toks + 1 }) :
    wpAny (model prog w) A (getAttr (.ref x) name expr) Q E s := by
  obtain ⟨od, J, hl⟩ := I.look
  exact PySem.W.get_value X J (PySem.W.plainGet_of hg).1 (PySem.W.findObj_own hh ha rfl (by rw [hl, hv])) hv' h

theorem get_const {expr : Bool} {a : Value} {Q : Value → Shared → Prop} (X : K.In s.heap) (I : ObjM s.heap x dx C mA) (hg : PySem.W.plainGet K C name = true) (hh : PySem.W.hasDictIn K C = true)
    (ha : PySem.W.findIn K (.ref C) name = some (some a)) (hn : PySem.W.specialIn K a "__get__" = some none) (hc : PySem.W.copiedNames.contains name = false) (hv : mA name = none) (hv' : PySem.W.handedIn a = true)
    (h : Q a { s with toks := s.toks + 1 }) : wpAny (model prog w) A (getAttr (.ref x) name expr) Q E s := by
  obtain ⟨od, J, hl⟩ := I.look
  exact PySem.W.get_value X J (PySem.W.plainGet_of hg).1 (PySem.W.findObj_cls hh ha hn hv' hc (by rw [hl, hv])) hv' h

theorem get_meth {pl : Sem Bool} {Q : Value × List Value → Shared → Prop} (X : K.In s.heap) (I : ObjM s.heap x dx C mA) (hg : PySem.W.plainGet K C name = true)
    (hf : PySem.W.findIn K (.ref C) name = some (some (.ref f))) (ht : PySem.W.isFn K (.ref f) = true) (hv : mA name = none) (h : Q (.ref f, [.ref x]) s) :
    wpAny (model prog w) A (getMethod (.ref x) name pl) Q E s := by
  obtain ⟨od, J, hl⟩ := I.look
  exact PySem.W.method_fn X J (PySem.W.plainGet_of hg).1 (PySem.W.plainGet_of hg).2 hf (beq_iff_eq.mp ht) (by show (PySem.W.lookIn name od).map (·.isSome) = some false; rw [hl, hv]; rfl) h

theorem set_map {ns : List Str} {Q : Unit → Shared → Prop} (X : K.In s.heap) (I : ObjM s.heap x dx C mA)
    (hs : PySem.W.findIn K (.ref C) "__setattr__" = some (some (.builtin "object.__setattr__"))) (hp : PySem.W.plainOver K C = true) (ht : PySem.W.takerIn K C name = some none) (hh : PySem.W.hasDictIn K C = true)
    (hw : PySem.Within mA ns) (hsz : ns.length ≤ sizeLine)
    (h : ∀ h', ObjM h' x dx C (fun y => if y = name then some v else mA y) → Heap.SameBut dx s.heap h' → Q () { s with heap := h', toks := s.toks + 2 }) :
    wpAny (model prog w) A (setAttr (.ref x) name v) Q E s := by
  obtain ⟨od, J, hl⟩ := I.look
  refine PySem.W.set_plain X J hs (PySem.W.osa_open (s := { s with toks := s.toks + 1 }) (r := none) X J hp ht fun b => ?_)
  obtain ⟨cd, hc, hd'⟩ := PySem.W.any_some hh
  have hx : s.heap.get? x = some ⟨.ref C, some dx, .plain, #[]⟩ := I.obj
  refine wpAny_bind (wpAny_pure (wpAny_bind (wpAny_bind (wpAny_loadPart hx (wpAny_bind (PySem.W.Looks.here (s := { s with toks := s.toks + 1 }) (PySem.W.looks_clsIn X hc) ?_))))))
  rw [hd']
  refine wpAny_pure (a := some dx) (wpAny_bind (wpAny_pure (wpAny_bind ?_)))
  refine wpAny_nsSet1 (s := { s with toks := s.toks + 1 }) I.ns fun h' hn2 hs2 => ?_
  obtain ⟨oD, esD, epD, hoD, hdD, hcD⟩ := hn2.count (PySem.Within.cons name v hw)
  refine wpAny_bind (wpAny_lookBehind hoD (by rw [hdD]; exact pastItsLine_dict (Nat.le_trans hcD (by rw [List.length_cons]; omega))) ?_)
  exact wpAny_pure (h _ ⟨(hs2.2 _ (Ne.symm I.ne)).trans I.obj, hn2, I.ne⟩ hs2)

/-- C(..): the dict at the heap's end, the instance behind it; then its __init__ -/
theorem make_map {R : Result → Shared → Prop} {vs : List Value} {kw : List (Str × Value)} (X : K.In s.heap) (hm : PySem.W.makesIn K C = true)
    (hi : PySem.W.findIn K (.ref C) "__init__" = some (some (.ref f))) (hf : PySem.W.typeIn K (.ref f) = some (.type "function"))
    (h : codeAny (model prog w) (A.under (.builtin "type.__call__" ⟨.ref C :: vs, kw⟩)) (.call (.ref f) ⟨.ref (s.heap.objs.size + 1) :: vs, kw⟩) (PySem.W.InitBack (s.heap.objs.size + 1) R)
      { s with heap := (s.heap.push PySem.W.emptyDict).push (PySem.W.instObj C s.heap.objs.size) }) :
    codeAny (model prog w) A (.call (.ref C) ⟨vs, kw⟩) R s := by
  obtain ⟨hh, g, d, t, os⟩ := s
  exact PySem.W.make_core (PySem.W.makes_of X hm) (PySem.W.looks_findIn X hi) (fun self => PySem.W.bind_fn X self hf) (.inl rfl) h
/-- C() where there is no __init__ but object's -/
theorem make_map0 {R : Result → Shared → Prop} (X : K.In s.heap) (hm : PySem.W.makesIn K C = true)
    (hi : PySem.W.findIn K (.ref C) "__init__" = some (some (.builtin "object.__init__")))
    (hb : ∀ self, PySem.W.Looks (model prog w) s.heap (bindSpecial (.builtin "object.__init__") self) (.builtin "object.__init__", [self]))
    (h : codeAny (model prog w) (A.under (.builtin "type.__call__" ⟨[.ref C], []⟩)) (.call (.builtin "object.__init__") ⟨[.ref (s.heap.objs.size + 1)], []⟩) (PySem.W.InitBack (s.heap.objs.size + 1) R)
      { s with heap := (s.heap.push PySem.W.emptyDict).push (PySem.W.instObj C s.heap.objs.size) }) :
    codeAny (model prog w) A (.call (.ref C) ⟨[], []⟩) R s := by
  obtain ⟨hh, g, d, t, os⟩ := s
  exact PySem.W.make_core (PySem.W.makes_of X hm) (PySem.W.looks_findIn X hi) hb (.inr ⟨rfl, rfl⟩) h
end

/-! ### the attributes as a list of pairs -/
def putF (f : Str) (v : V) : List (Str × V) → List (Str × V)
  | [] => [(f, v)]
  | (g, x) :: r => if g = f then (g, v) :: r else (g, x) :: putF f v r
theorem lookup_putF (f g : Str) (v : V) : ∀ fs : List (Str × V), (putF f v fs).lookup g = if g = f then some v else fs.lookup g
  | [] => by
    show List.lookup g [(f, v)] = _
    by_cases h : g = f
    · have hb : (g == f) = true := beq_iff_eq.mpr h
      simp only [List.lookup, hb, if_pos h]
    · have hb : (g == f) = false := beq_eq_false_iff_ne.mpr h
      simp only [List.lookup, hb, if_neg h]
  | (k, x) :: r => by
    have ih := lookup_putF f g v r
    rw [show putF f v ((k, x) :: r) = (if k = f then (k, v) :: r else (k, x) :: putF f v r) from rfl]
    by_cases hk : k = f
    · rw [if_pos hk]
      by_cases h : g = k
      · have hb : (g == k) = true := beq_iff_eq.mpr h
        simp only [List.lookup, hb, if_pos (h.trans hk)]
      · have hb : (g == k) = false := beq_eq_false_iff_ne.mpr h
        simp only [List.lookup, hb, if_neg (fun e : g = f => h (e.trans hk.symm))]
    · rw [if_neg hk]
      by_cases h : g = k
      · have hb : (g == k) = true := beq_iff_eq.mpr h
        simp only [List.lookup, hb, if_neg (fun e : g = f => hk (h.symm.trans e))]
      · have hb : (g == k) = false := beq_eq_false_iff_ne.mpr h
        simp only [List.lookup, hb]
        exact ih
theorem keys_putF (f : Str) (v : V) : ∀ fs : List (Str × V), f ∈ (putF f v fs).map (·.1) ∧ ∀ g, g ∈ fs.map (·.1) → g ∈ (putF f v fs).map (·.1)
  | [] => ⟨by simp [putF], fun g h => by simp at h⟩
  | (k, x) :: r => by
    obtain ⟨i1, i2⟩ := keys_putF f v r
    rw [show putF f v ((k, x) :: r) = (if k = f then (k, v) :: r else (k, x) :: putF f v r) from rfl]
    by_cases hk : k = f
    · rw [if_pos hk]
      subst hk
      exact ⟨by simp, fun g h => by simpa using h⟩
    · rw [if_neg hk]
      refine ⟨?_, fun g h => ?_⟩
      · rw [List.map_cons]
        exact List.mem_cons_of_mem _ i1
      · rw [List.map_cons] at h ⊢
        rcases List.mem_cons.mp h with e | e
        · exact List.mem_cons.mpr (.inl e)
        · exact List.mem_cons_of_mem _ (i2 g e)
theorem length_putF (f : Str) (v : V) : ∀ fs : List (Str × V), (putF f v fs).length ≤ fs.length + 1
  | [] => by simp [putF]
  | (k, x) :: r => by
    have ih := length_putF f v r
    rw [show putF f v ((k, x) :: r) = (if k = f then (k, v) :: r else (k, x) :: putF f v r) from rfl]
    by_cases hk : k = f
    · rw [if_pos hk, List.length_cons, List.length_cons]; omega
    · rw [if_neg hk, List.length_cons, List.length_cons]; omega

theorem RelO.some_of {v : V} {o : Option Value} (r : RelO (some v) o) : ∃ u, o = some u ∧ RelV v u := by
  cases o with
  | none => exact (show False from r).elim
  | some u => exact ⟨u, rfl, r⟩
theorem RelO.none_of {o : Option Value} (r : RelO none o) : o = none := by
  cases o with
  | none => rfl
  | some u => exact (show False from r).elim
theorem handed_of {v : V} {u : Value} (r : RelV v u) : PySem.W.handedIn u = true := by
  cases v with
  | non => cases (show u = Value.none from r); rfl
  | bl b => cases (show u = Value.bool b from r); rfl
  | int i => obtain ⟨t, e⟩ := (show ∃ t, u = Value.int i t from r); cases e; rfl
  | str x => obtain ⟨t, e⟩ := (show ∃ t, u = Value.str x t from r); cases e; rfl
  | byt b => obtain ⟨t, e⟩ := (show ∃ t, u = Value.bytes b t from r); cases e; rfl
  | flt b => obtain ⟨t, e⟩ := (show ∃ t, u = Value.float b t from r); cases e; rfl
  | ref a => cases (show u = Value.ref a from r); rfl
  | ty n => cases (show u = Value.type n from r); rfl

section
variable {P : Program} {w : World} {H H' : Hp} {h h' : Heap} {a C dx : Addr} {fs fs' : List (Str × V)}
theorem ins_get (hok : HOk P w H h) (e : H a = some (.ins C dx fs)) : ∃ mA, ObjM h a dx C mA ∧ (∀ f, RelO (fs.lookup f) (mA f)) ∧ PySem.Within mA (fs.map (·.1)) ∧ fs.length ≤ 1000 ∧ H dx = some (.own a) := by
  obtain ⟨d, z, ne, ob, mA, n, r, q⟩ := (show ObjOk P w H h a (.ins C dx fs) from hok a _ e)
  exact ⟨mA, ⟨ob, n, ne⟩, r, q, z, d⟩
end

/-! ### what of the text a class must have -/
structure Cls (K : PySem.W.Frag) (C : Addr) : Prop where
  pg : PySem.W.plainGet K C Str.empty = true
  hd : PySem.W.hasDictIn K C = true
  po : PySem.W.plainOver K C = true
  sa : PySem.W.findIn K (.ref C) "__setattr__" = some (some (.builtin "object.__setattr__"))
theorem Cls.get {K : PySem.W.Frag} {C : Addr} (c : Cls K C) (f : Str) : PySem.W.plainGet K C f = true := c.pg
/-- no class of it has the name -/
def NoAttr (K : PySem.W.Frag) (C : Addr) (f : Str) : Prop := PySem.W.findIn K (.ref C) f = some none
theorem NoAttr.taker {K : PySem.W.Frag} {C : Addr} {f : Str} (n : NoAttr K C f) : PySem.W.takerIn K C f = some none := by
  unfold PySem.W.takerIn
  rw [show PySem.W.findIn K (.ref C) f = some none from n]
  rfl
/-- a constant of the class -/
structure Con (K : PySem.W.Frag) (C : Addr) (f : Str) (v : V) (u : Value) : Prop where
  at_ : PySem.W.findIn K (.ref C) f = some (some u)
  rel : RelV v u
  get : PySem.W.specialIn K u "__get__" = some none
  cp : PySem.W.copiedNames.contains f = false
/-- a method: a plain def of the class or of one above it -/
structure Meth (K : PySem.W.Frag) (C : Addr) (m : Str) (f : Addr) : Prop where
  at_ : PySem.W.findIn K (.ref C) m = some (some (.ref f))
  fn : PySem.W.isFn K (.ref f) = true
  kp : PySem.W.keepIn K (.ref f) = true

section
variable {X : Cx} {pins : List (Addr × Obj)} {σ : St} {H : Hp} {s : Shared} {a C dx : Addr} {fs : List (Str × V)} {f : Str} {v : V} {A : Around} {E : Value → Shared → Prop}

theorem getattr_ok {b : Bool} {Q : Value → Shared → Prop} (I : Inv X pins σ H s) (e : H a = some (.ins C dx fs)) (c : Cls X.K C) (n : NoAttr X.K C f) (l : fs.lookup f = some v)
    (h : ∀ u s', Inv X pins σ H s' → RelV v u → Q u s') : wpAny (model X.prog X.w) A (getAttr (.ref a) f b) Q E s := by
  obtain ⟨mA, O, r, _, _, _⟩ := ins_get I.hok e
  obtain ⟨u, hu, ru⟩ := RelO.some_of (v := v) (o := mA f) (by rw [← l]; exact r f)
  exact get_map I.kIn O (c.get f) c.hd n hu (handed_of ru) (h u _ (I.tok _) ru)

theorem getcon_ok {b : Bool} {u : Value} {Q : Value → Shared → Prop} (I : Inv X pins σ H s) (e : H a = some (.ins C dx fs)) (c : Cls X.K C) (k : Con X.K C f v u) (l : fs.lookup f = none)
    (h : ∀ s', Inv X pins σ H s' → Q u s') : wpAny (model X.prog X.w) A (getAttr (.ref a) f b) Q E s := by
  obtain ⟨mA, O, r, _, _, _⟩ := ins_get I.hok e
  have hn : mA f = none := RelO.none_of (by rw [← l]; exact r f)
  exact get_const I.kIn O (c.get f) c.hd k.at_ k.get k.cp hn (handed_of k.rel) (h _ (I.tok _))

theorem getmeth_ok {m : Str} {g : Addr} {pl : Sem Bool} {Q : Value × List Value → Shared → Prop} (I : Inv X pins σ H s) (e : H a = some (.ins C dx fs)) (c : Cls X.K C) (k : Meth X.K C m g) (l : fs.lookup m = none)
    (h : Q (.ref g, [.ref a]) s) : wpAny (model X.prog X.w) A (getMethod (.ref a) m pl) Q E s := by
  obtain ⟨mA, O, r, _, _, _⟩ := ins_get I.hok e
  have hn : mA m = none := RelO.none_of (by rw [← l]; exact r m)
  exact get_meth I.kIn O (c.get m) k.at_ k.fn hn h

theorem setattr_ok {y : V} {u : Value} {Q : Unit → Shared → Prop} (I : Inv X pins σ H s) (e : H a = some (.ins C dx fs)) (c : Cls X.K C) (n : NoAttr X.K C f) (hl : fs.length < 1000) (ry : RelV y u)
    (h : ∀ s', Inv X pins σ (upd H a (.ins C dx (putF f y fs))) s' → Q () s') : wpAny (model X.prog X.w) A (setAttr (.ref a) f u) Q E s := by
  obtain ⟨mA, O, r, wi, _, ho⟩ := ins_get I.hok e
  have hz : (fs.map (·.1)).length ≤ sizeLine := by rw [List.length_map, sizeLine_eq]; omega
  refine set_map I.kIn O c.sa c.po n.taker c.hd wi hz fun h' O' sb => h _ ?_
  have hd : ∃ o, h'.get? dx = some o := let ⟨o, _, _, e', _⟩ := O'.ns; ⟨o, e'⟩
  refine I.write (x := a) (e := dx) (by rw [e]; exact True.intro) (.inr ho) (fun b q hb z => (sb.2 b hb).trans z) hd ?_
  refine ⟨by rw [upd_ne O.ne]; exact ho, ?_, O.ne, O'.obj, _, O'.ns, fun g => ?_, fun g hg => ?_⟩
  · have := length_putF f y fs; omega
  · show RelO ((putF f y fs).lookup g) (if g = f then some u else mA g)
    rw [lookup_putF]
    by_cases q : g = f
    · rw [if_pos q, if_pos q]; exact ry
    · rw [if_neg q, if_neg q]; exact r g
  · by_cases q : g = f
    · rw [q]; exact (keys_putF f y fs).1
    · refine (keys_putF f y fs).2 g (wi g fun z => hg ?_)
      show (if g = f then some u else mA g) = none
      rw [if_neg q]; exact z

/-- a new instance, tracked, without attributes -/
theorem Inv.made (I : Inv X pins σ H s) : Inv X pins σ (upd (upd H s.heap.objs.size (.own (s.heap.objs.size + 1))) (s.heap.objs.size + 1) (.ins C s.heap.objs.size []))
    { s with heap := (s.heap.push PySem.W.emptyDict).push (PySem.W.instObj C s.heap.objs.size) } := by
  have e1 : (s.heap.push PySem.W.emptyDict).get? s.heap.objs.size = some PySem.W.emptyDict := Heap.get?_push_size s.heap rfl
  have e2 : ((s.heap.push PySem.W.emptyDict).push (PySem.W.instObj C s.heap.objs.size)).get? (s.heap.objs.size + 1) = some (PySem.W.instObj C s.heap.objs.size) := by
    have := Heap.get?_push_size (s.heap.push PySem.W.emptyDict) (o := PySem.W.instObj C s.heap.objs.size) rfl
    rwa [Heap.size_push] at this
  have e3 : (s.heap.push PySem.W.emptyDict).Ns s.heap.objs.size (fun _ => none) := ⟨PySem.W.emptyDict, #[], _, e1, rfl, (fun e he => absurd he (by simp)), fun _ => rfl⟩
  have I1 := I.laid (a := s.heap.objs.size) (o := .own (s.heap.objs.size + 1)) (h' := s.heap.push PySem.W.emptyDict) (t' := s.toks) (fun b u q => Heap.get?_push_of_some _ q) (Nat.le_refl _) ⟨_, e1⟩
  refine I1.laid (a := s.heap.objs.size + 1) (o := .ins C s.heap.objs.size []) (t' := s.toks) (fun b u q => Heap.get?_push_of_some _ q) (Nat.le_of_eq (Heap.size_push _ _)) ?_
  have ne : s.heap.objs.size ≠ s.heap.objs.size + 1 := Nat.ne_of_lt (Nat.lt_succ_self _)
  refine ⟨by rw [upd_ne ne, upd_same], Nat.zero_le _, ne, e2, fun _ => none, (Heap.Ns1.of_empty e3).at fun o q => Heap.get?_push_of_some _ q, fun _ => True.intro, fun y hy => absurd rfl hy⟩

/-- e.f where nothing but the object is asked: through attributeBase (super) and the last hold -/
theorem attr_of {prog : Program} {w : World} {env : Env} {e : Expr} {f : Str} {pos : Pos} {s : Shared} {Q : Value → Shared → Prop} (hb : attributeBase e f env (eval e env) = eval e env)
    (h : wpAny (model prog w) A (eval e env) (fun o s₁ => wpAny (model prog w) A (getAttr o f true) Q E s₁) E s) : wpAny (model prog w) A (eval (.Attribute e f pos) env) Q E s :=
  Attribute_any_ h (by rw [arm_eval_Attribute, hb])
end

/-! ### readings and rules -/
/-- e.f, an attribute of the instance -/
def tFld (K : PySem.W.Frag) (ta : TE) (f : Str) : TE := fun σ H Q => ta σ H fun x H1 => ∃ a C dx fs v, x = .ref a ∧ H1 a = some (.ins C dx fs) ∧ Cls K C ∧ NoAttr K C f ∧ fs.lookup f = some v ∧ Q v H1
/-- e.f, a constant of the class -/
def tCon (K : PySem.W.Frag) (ta : TE) (f : Str) : TE := fun σ H Q => ta σ H fun x H1 => ∃ a C dx fs v u, x = .ref a ∧ H1 a = some (.ins C dx fs) ∧ Cls K C ∧ Con K C f v u ∧ fs.lookup f = none ∧ Q v H1
/-- e.f = value -/
def sFld (K : PySem.W.Frag) (ta tv : TE) (f : Str) : TS := fun D σ H => tv σ H fun y H1 => ta σ H1 fun x H2 => ∃ a C dx fs, x = .ref a ∧ H2 a = some (.ins C dx fs) ∧ Cls K C ∧ NoAttr K C f ∧ fs.length < 1000 ∧
  D.nx σ (upd H2 a (.ins C dx (putF f y fs)))
/-- an augmented operator on two values -/
def InOp (X : Cx) (op : Operator) (rd : V → V → Hp → VK → Prop) : Prop :=
  ∀ (pins : List (Addr × Obj)) (s : Shared) (σ : St) (H : Hp) (x y : V) (u v : Value) (Q : VK), Inv X pins σ H s → RelV x u → RelV y v → rd x y H Q → wpAny (model X.prog X.w) X.A (inplaceOp op u v) (EP X pins σ Q) X.xe s
/-- e.f op= value -/
def sFldAug (K : PySem.W.Frag) (ta tv : TE) (rd : V → V → Hp → VK → Prop) (f : Str) : TS := fun D σ H => ta σ H fun x H1 => ∃ a C dx fs v, x = .ref a ∧ H1 a = some (.ins C dx fs) ∧ Cls K C ∧ NoAttr K C f ∧ fs.lookup f = some v ∧
  tv σ H1 fun y H2 => rd v y H2 fun z H3 => ∃ dx' fs', H3 a = some (.ins C dx' fs') ∧ fs'.length < 1000 ∧ D.nx σ (upd H3 a (.ins C dx' (putF f z fs')))

section
variable {X : Cx} {o e value : Expr} {f : Str} {pos pos' tpos : Pos} {ta tv : TE}
theorem pe_fld (he : PE X e ta) (hb : attributeBase e f X.env (eval e X.env) = eval e X.env) : PE X (.Attribute e f pos) (tFld X.K ta f) := by
  intro pins s σ H Q I h
  refine attr_of hb (thn (he pins s σ H _ I h) fun u s1 ⟨x, H1, I1, rx, a, C, dx, fs, v, ex, ea, c, n, l, q⟩ => ?_)
  subst ex
  obtain rfl : u = Value.ref a := rx
  exact getattr_ok I1 ea c n l fun u' s2 I2 ru => ⟨v, H1, I2, ru, q⟩
theorem pe_con (he : PE X e ta) (hb : attributeBase e f X.env (eval e X.env) = eval e X.env) : PE X (.Attribute e f pos) (tCon X.K ta f) := by
  intro pins s σ H Q I h
  refine attr_of hb (thn (he pins s σ H _ I h) fun u s1 ⟨x, H1, I1, rx, a, C, dx, fs, v, u0, ex, ea, c, k, l, q⟩ => ?_)
  subst ex
  obtain rfl : u = Value.ref a := rx
  exact getcon_ok I1 ea c k l fun s2 I2 => ⟨v, H1, I2, k.rel, q⟩
theorem ps_fld (ha : PE X o ta) (hv : PE X value tv) (hs : swapsWith value (some (.Attribute o f pos')) pos.line X.env = pure false) : PS X (.Assign [.Attribute o f pos'] value pos) (sFld X.K ta tv f) := by
  intro pins s σ H D I h
  refine plainObj_wpAny_Assign_Attribute (thn (hv pins s σ H _ I h) fun u s1 ⟨y, H1, I1, ry, q⟩ => thn (ha pins s1 σ H1 _ I1 q) fun ov s2 ⟨x, H2, I2, rx, a, C, dx, fs, ex, ea, c, n, l, q2⟩ => ?_) hs
  subst ex
  obtain rfl : ov = Value.ref a := rx
  exact setattr_ok I2 ea c n l ry fun s3 I3 => ⟨σ, _, I3, q2⟩
theorem ps_fldaug {op : Operator} {rd : V → V → Hp → VK → Prop} (ha : PE X o ta) (hv : PE X value tv) (hop : InOp X op rd) : PS X (.AugAssign (.Attribute o f tpos) op value pos) (sFldAug X.K ta tv rd f) := by
  intro pins s σ H D I h
  refine wpAny_AugAssign_AttributeAny (thn (ha pins s σ H _ I h) fun ov s1 ⟨x, H1, I1, rx, a, C, dx, fs, v, ex, ea, c, n, l, q⟩ => ?_)
  subst ex
  obtain rfl : ov = Value.ref a := rx
  refine getattr_ok I1 ea c n l fun u s2 I2 ru => thn (hv pins s2 σ H1 _ I2 q) fun w3 s3 ⟨y, H2, I3, ry, q3⟩ => thn (hop pins s3 σ H2 v y u w3 _ I3 ru ry q3) fun w4 s4 ⟨z, H3, I4, rz, dx', fs', ea', l', q4⟩ => ?_
  exact setattr_ok I4 ea' c n l' rz fun s5 I5 => ⟨σ, _, I5, q4⟩
def rAdd : V → V → Hp → VK → Prop := fun x y H Q => ∃ i j, x = .int i ∧ y = .int j ∧ Q (.int (i + j)) H
def rSub : V → V → Hp → VK → Prop := fun x y H Q => ∃ i j, x = .int i ∧ y = .int j ∧ Q (.int (i - j)) H
theorem in_add : InOp X .Add rAdd := by
  rintro pins s σ H x y u v Q I rx ry ⟨i, j, rfl, rfl, q⟩
  obtain ⟨t, rfl⟩ := (show ∃ t, u = Value.int i t from rx)
  obtain ⟨t', rfl⟩ := (show ∃ t', v = Value.int j t' from ry)
  exact PyProof.Rows.iadd_int ⟨.int (i + j), H, I.tok _, ⟨_, rfl⟩, q⟩
theorem in_sub : InOp X .Sub rSub := by
  rintro pins s σ H x y u v Q I rx ry ⟨i, j, rfl, rfl, q⟩
  obtain ⟨t, rfl⟩ := (show ∃ t, u = Value.int i t from rx)
  obtain ⟨t', rfl⟩ := (show ∃ t', v = Value.int j t' from ry)
  exact PyProof.Rows.isub_int ⟨.int (i - j), H, I.tok _, ⟨_, rfl⟩, q⟩

/-- what is between an instance and its method: the tree of a method call -/
theorem methcall_of {pl : Sem Bool} {m : Str} {apos : Pos} {args : List Expr} {pins : List (Addr × Obj)} {s : Shared} {σ : St} {H : Hp} {Q : Value → Shared → Prop} {te : TE} (he : PE X e te) (I : Inv X pins σ H s)
    (h : te σ H fun x H1 => ∃ a C dx fs g, x = .ref a ∧ H1 a = some (.ins C dx fs) ∧ Cls X.K C ∧ Meth X.K C m g ∧ fs.lookup m = none ∧
      ∀ s1, Inv X pins σ H1 s1 → wpAny (model X.prog X.w) X.A (callWith pos (.ref g) [.ref a] (backTo pos (starEach args X.env)) (backToKw pos (keywordEach [] X.env))) Q X.xe s1)
    (ht : eval (.Call (.Attribute e m apos) args [] pos) X.env = (do
      let ov ← eval e X.env
      standAt apos.atName
      let (f, first) ← holding [ov] (getMethod ov m pl)
      callWith pos f first (backTo pos (starEach args X.env)) (backToKw pos (keywordEach [] X.env)))) :
    wpAny (model X.prog X.w) X.A (eval (.Call (.Attribute e m apos) args [] pos) X.env) Q X.xe s := by
  refine PySem.W.methodCall_KW (pl := pl) (thn (he pins s σ H _ I h) fun u s1 ⟨x, H1, I1, rx, a, C, dx, fs, g, ex, ea, c, k, l, q⟩ => ?_) ht
  subst ex
  obtain rfl : u = Value.ref a := rx
  exact getmeth_ok I1 ea c k l (q s1 I1)
end

/-! ### isinstance -/
section
variable {X : Cx} {pins : List (Addr × Obj)} {σ : St} {H : Hp} {s : Shared} {A : Around} {E : Value → Shared → Prop} {Q : Value → Shared → Prop} {c : Value} {b : Bool}
/-- the type of a value, as the fragment's deciders take it; for an instance its class -/
inductive TyOf (K : PySem.W.Frag) (H : Hp) : V → Value → Prop where
  | non : TyOf K H .non (.type "NoneType")
  | bl (x : Bool) : TyOf K H (.bl x) (.type "bool")
  | int (i : Int) : TyOf K H (.int i) (.type "int")
  | str (x : Str) : TyOf K H (.str x) (.type "str")
  | flt (x : UInt64) : TyOf K H (.flt x) (.type "float")
  | lst {a : Addr} {xs : List V} (e : H a = some (.lst xs)) : TyOf K H (.ref a) (.type "list")
  | frz {a : Addr} {o : Obj} {xs : List V} (e : H a = some (.frz o (.lst xs))) : TyOf K H (.ref a) (.type "list")
  | tup {a : Addr} {xs : List V} (e : H a = some (.tup xs)) : TyOf K H (.ref a) (.type "tuple")
  | dK {a : Addr} {kvs : List (Key × V)} (e : H a = some (.dK kvs)) : TyOf K H (.ref a) (.type "dict")
  | dT {a : Addr} {kvs : List (List Key × V)} (e : H a = some (.dT kvs)) : TyOf K H (.ref a) (.type "dict")
  | ins {a C dx : Addr} {fs : List (Str × V)} (e : H a = some (.ins C dx fs)) (cl : Cls K C) (ha : PySem.W.findIn K (.ref C) "__class__" = some (some (.builtin "object.__class__")))
      (hn : PySem.W.specialIn K (.builtin "object.__class__") "__get__" = some (some (.builtin "getset_descriptor.__get__"))) (htk : PySem.W.takesIn K (.builtin "object.__class__") = some true)
      (hm : PySem.W.mroIn K C (.type "object") = some true) : TyOf K H (.ref a) (.ref C)
/-- isinstance(x, c) for one class c, a built-in or an own one: kitOne's answer -/
theorem isinst_ok {x : V} {u t : Value} (I : Inv X pins σ H s) (rx : RelV x u) (ty : TyOf X.K H x t) (e : PySem.W.kitOne X.K t c = some b) (h : ∀ tk, Q (.bool b) { s with toks := tk }) :
    wpAny (model X.prog X.w) A (call (.builtin "isinstance") [u, c]) Q E s := by
  cases ty with
  | non => cases (show u = Value.none from rx); exact PySem.W.kia_one PySem.W.kitx_none I.kIn True.intro e (fun z => nomatch z) h
  | bl y => cases (show u = Value.bool y from rx); exact PySem.W.kia_one PySem.W.kitx_bool I.kIn True.intro e (fun z => nomatch z) h
  | int i => obtain ⟨t, q⟩ := (show ∃ t, u = Value.int i t from rx); cases q; exact PySem.W.kia_one PySem.W.kitx_int I.kIn True.intro e (fun z => nomatch z) h
  | str y => obtain ⟨t, q⟩ := (show ∃ t, u = Value.str y t from rx); cases q; exact PySem.W.kia_one PySem.W.kitx_str I.kIn True.intro e (fun z => nomatch z) h
  | flt y => obtain ⟨t, q⟩ := (show ∃ t, u = Value.float y t from rx); cases q; exact PySem.W.kia_one PySem.W.kitx_float I.kIn True.intro e (fun z => nomatch z) h
  | @lst a xs ea =>
    cases (show u = Value.ref a from rx)
    obtain ⟨_, _, n, _, h1⟩ := (show ObjOk X.prog X.w H s.heap a (.lst xs) from I.hok a _ ea)
    exact PySem.W.kia_one PySem.W.kitx_list I.kIn ⟨_, h1, rfl⟩ e (fun z => nomatch z) h
  | @frz a ob xs ea =>
    cases (show u = Value.ref a from rx)
    obtain ⟨_, _, _, n, _, h1⟩ := (show ObjOk X.prog X.w H s.heap a (.frz ob (.lst xs)) from I.hok a _ ea)
    exact PySem.W.kia_one PySem.W.kitx_list I.kIn ⟨_, h1, rfl⟩ e (fun z => nomatch z) h
  | @tup a xs ea =>
    cases (show u = Value.ref a from rx)
    obtain ⟨_, _, _, p⟩ := (show ObjOk X.prog X.w H s.heap a (.tup xs) from I.hok a _ ea)
    obtain ⟨o, h1, h2, _⟩ := p
    exact PySem.W.kia_one PySem.W.kitx_tuple I.kIn ⟨o, h1, h2⟩ e (fun z => nomatch z) h
  | @dK a kvs ea =>
    cases (show u = Value.ref a from rx)
    obtain ⟨_, _, vs, _, p⟩ := (show ObjOk X.prog X.w H s.heap a (.dK kvs) from I.hok a _ ea)
    obtain ⟨o, es, ep, h1, h2, _⟩ := p
    exact PySem.W.kia_one PySem.W.kitx_dict I.kIn ⟨o, h1, h2.1⟩ e (fun z => nomatch z) h
  | @dT a kvs ea =>
    cases (show u = Value.ref a from rx)
    obtain ⟨_, _, xs, _, o, es, ep, h1, h2, _⟩ := (show ObjOk X.prog X.w H s.heap a (.dT kvs) from I.hok a _ ea)
    exact PySem.W.kia_one PySem.W.kitx_dict I.kIn ⟨o, h1, h2.1⟩ e (fun z => nomatch z) h
  | @ins a C dx fs ea cl ha hn htk hm =>
    cases (show u = Value.ref a from rx)
    obtain ⟨mA, O, _⟩ := ins_get I.hok ea
    obtain ⟨od, J, _⟩ := O.look
    exact PySem.W.kia_one (PySem.W.kitx_own (cl.get _) cl.hd ha hn htk hm) I.kIn J e (fun z => nomatch z) h
end
end L2

namespace L2
open PySem PySem.Spec PyProof.Rows

/-! ### room -/
structure Room (k : Nat) (A : Around) : Prop where
  hd : A.handled = none
  dp : A.depth + 3 * k + 5 < recursionLimit
  un : A.units + 16 * k + 200 < cLine
theorem Room.mono {j k : Nat} {A : Around} (r : Room k A) (h : j ≤ k) : Room j A := ⟨r.hd, by have := r.dp; omega, by have := r.un; omega⟩
theorem Room.deeper {k : Nat} {A : Around} (r : Room (k + 1) A) (env : Env) : Room k (A.deeper env) :=
  ⟨r.hd, by have := r.dp; show A.depth + 1 + 3 * k + 5 < _; omega, by have := r.un; show A.units + 3 + 16 * k + 200 < _; omega⟩
theorem Room.in1 {k : Nat} {A : Around} (r : Room (k + 1) A) : Room k A.in1 :=
  ⟨r.hd, by have := r.dp; show A.depth + 3 * k + 5 < _; omega, by have := r.un; show A.units + 1 + 16 * k + 200 < _; omega⟩
theorem make_depth {A : Around} {C : Addr} {us : List Value} {kw : List (Str × Value)} : (A.under (.builtin "type.__call__" ⟨.ref C :: us, kw⟩)).depth = A.depth + 1 := by
  first | rfl | simp [Around.under, Code.weight, Code.isCreation, Code.isGuard, Code.isCaller, Code.frames, Code.isFrame, guardIds]
theorem make_units {A : Around} {C : Addr} {us : List Value} {kw : List (Str × Value)} : (A.under (.builtin "type.__call__" ⟨.ref C :: us, kw⟩)).units = A.units + 1 := by
  first | rfl | simp [Around.under, Code.cUnits, Code.frames, Code.isFrame]
theorem Room.make {k : Nat} {A : Around} (r : Room (k + 1) A) (C : Addr) (us : List Value) (kw : List (Str × Value)) : Room k (A.under (.builtin "type.__call__" ⟨.ref C :: us, kw⟩)) :=
  ⟨r.hd, by have := r.dp; rw [make_depth]; omega, by have := r.un; rw [make_units]; omega⟩
theorem Room.depth {k : Nat} {A : Around} (r : Room k A) : A.depth < recursionLimit := by have := r.dp; omega
theorem Room.units {k : Nat} {A : Around} (r : Room k A) : A.units + 64 < cLine := by have := r.un; omega
theorem Room.units0 {k : Nat} {A : Around} (r : Room k A) : A.units < cLine := by have := r.un; omega

/-! ### argument lists and displays -/
def tNil : TA := fun _ H Q => Q [] H
def tCons (ta : TE) (tr : TA) : TA := fun σ H Q => ta σ H fun x H1 => tr σ H1 fun xs H2 => Q (x :: xs) H2
section
variable {X : Cx} {e : Expr} {es : List Expr} {te : TE} {t : TA} {pos : Pos}
theorem pa_nil : PA X [] tNil := fun _ _ _ _ H Q I h => Calls.spliced_nil ⟨[], H, I, .nil, h⟩
theorem pa_cons (ha : PE X e te) (hr : PA X es t) (hs : starEach (e :: es) X.env = (false, eval e X.env) :: starEach es X.env := by rfl) : PA X (e :: es) (tCons te t) := by
  intro pos pins s σ H Q I h
  rw [hs]
  show wpAny _ _ (spliced ((false, eval e X.env) :: backTo pos (starEach es X.env))) _ _ s
  refine Calls.spliced_cons (thn (ha pins s σ H _ I h) fun u s1 ⟨x, H1, I1, r1, q1⟩ => ?_)
  exact thn (hr pos pins s1 σ H1 _ I1 q1) fun us s2 ⟨xs, H2, I2, r2, q2⟩ => ⟨x :: xs, H2, I2, .cons r1 r2, q2⟩

/-- a tuple, a list of written items -/
def tTup (t : TA) : TE := fun σ H Q => t σ H fun xs H1 => xs.length ≤ sizeLine ∧ ∀ p, H1 p = none → Q (.ref p) (upd H1 p (.tup xs))
def tLst (t : TA) : TE := fun σ H Q => t σ H fun xs H1 => xs.length ≤ sizeLine ∧ ∀ p, H1 p = none → Q (.ref p) (upd H1 p (.lst xs))
theorem pe_tup {x1} (h : PA X es t) : PE X (.Tuple es x1 pos) (tTup t) := by
  intro pins s σ H Q I hq
  refine wpAny_Tuple_spliced (thn (h pos pins s σ H _ I hq) fun us s1 ⟨xs, H1, I1, r, z, q⟩ => ⟨by rw [← r.length]; exact z, ?_⟩)
  have hf : H1 s1.heap.objs.size = none := I1.hok.fresh (Nat.le_refl _)
  refine ⟨.ref s1.heap.objs.size, upd H1 s1.heap.objs.size (.tup xs), I1.laid (t' := s1.toks) (fun b u e => Heap.get?_push_of_some _ e) (Nat.le_refl _) ?_, rfl, q _ hf⟩
  exact ⟨z, us, r, ⟨_, Heap.get?_push_size _ rfl, rfl, _, rfl⟩⟩
theorem pe_lst (h : PA X es t) : PE X (.List es pos) (tLst t) := by
  intro pins s σ H Q I hq
  refine wpAny_List_spliced (thn (h pos pins s σ H _ I hq) fun us s1 ⟨xs, H1, I1, r, z, q⟩ => ⟨by rw [← r.length]; exact z, ?_⟩)
  have hf : H1 s1.heap.objs.size = none := I1.hok.fresh (Nat.le_refl _)
  refine ⟨.ref s1.heap.objs.size, upd H1 s1.heap.objs.size (.lst xs), I1.laid (t' := s1.toks) (fun b u e => Heap.get?_push_of_some _ e) (Nat.le_refl _) ?_, rfl, q _ hf⟩
  exact ⟨z, us, 0, r, Heap.get?_push_size _ rfl⟩
end

/-! ### what a def promises -/
/-- a def's promise: the bound arguments in the parameters' order, the heap, the wanted end, the wanted exception -/
abbrev Sp := List V → Hp → VK → XK → Prop
/-- how an exception lies behind a call (file 08 gives it): the callers' frames, abstract heap and state ahead of the call, the wish, the exception, the state -/
abbrev CXT := List Env → Hp → Shared → XK → Value → Shared → Prop

/-- the state at a call -/
structure Env0 (P : Program) (w : World) (K : PySem.W.Frag) (mg : Str → Option Value) (base : Heap) (A : Around) (outer : List Env) (s : Shared) (H : Hp) : Prop where
  frames : A.frames = some outer
  mod : Mod K mg base
  bs : ∀ b o, base.get? b = some o → s.heap.get? b = some o ∧ H b = none
  bsz : base.objs.size ≤ s.heap.objs.size
  funs : s.heap.FunFrames base outer
  frf : ∀ b ∈ frs outer, H b = none
  hok : HOk P w H s.heap
  bare : AllBare s.gens
/-- a call's end -/
def CE (outer : List Env) (P : Program) (w : World) (H : Hp) (s : Shared) (Q : VK) (u : Value) (s' : Shared) : Prop :=
  ∃ v H', s'.os = s.os ∧ AllBare s'.gens ∧ Un (frs outer) [] H H' s.heap s'.heap ∧ HOk P w H' s'.heap ∧ RelV v u ∧ Q v H'
def CR (CX : CXT) (outer : List Env) (P : Program) (w : World) (H : Hp) (s : Shared) (Q : VK) (E : XK) (r : Result) (s' : Shared) : Prop :=
  match r with
  | .ok (.ret u) => CE outer P w H s Q u s'
  | .ok _ => False
  | .error e => CX outer H s E e s'
structure FnOk (P : Program) (w : World) (K : PySem.W.Frag) (mg : Str → Option Value) (base : Heap) (CX : CXT) (k : Nat) (f : Addr) (fd : FuncData) (ps : List Str) (sp : Sp) : Prop where
  len : ∀ vs H Q E, sp vs H Q E → vs.length = ps.length
  run : ∀ (A : Around) (outer : List Env) (s : Shared) (H : Hp) (args : Args) (us : List Value) (vs : List V) (Q : VK) (E : XK), Room k A → Env0 P w K mg base A outer s H → BindsTo s fd args (ps.zip us) → Vals vs us → sp vs H Q E →
    codeAny (model P w) A (.call (.ref f) args) (CR CX outer P w H s Q E) s
theorem FnOk.mono {P : Program} {w : World} {K : PySem.W.Frag} {mg : Str → Option Value} {base : Heap} {CX : CXT} {j k : Nat} {f : Addr} {fd : FuncData} {ps : List Str} {sp : Sp} (F : FnOk P w K mg base CX j f fd ps sp) (h : j ≤ k) :
    FnOk P w K mg base CX k f fd ps sp := ⟨F.len, fun A outer s H args us vs Q E hr => F.run A outer s H args us vs Q E (hr.mono h)⟩
/-- a weaker promise -/
theorem FnOk.imp {P : Program} {w : World} {K : PySem.W.Frag} {mg : Str → Option Value} {base : Heap} {CX : CXT} {k : Nat} {f : Addr} {fd : FuncData} {ps : List Str} {sp sp' : Sp} (F : FnOk P w K mg base CX k f fd ps sp)
    (h : ∀ vs H Q E, sp' vs H Q E → sp vs H Q E) : FnOk P w K mg base CX k f fd ps sp' :=
  ⟨fun vs H Q E q => F.len vs H Q E (h _ _ _ _ q), fun A outer s H args us vs Q E hr he hb hv hs => F.run A outer s H args us vs Q E hr he hb hv (h _ _ _ _ hs)⟩

theorem Env0.make {P : Program} {w : World} {K : PySem.W.Frag} {mg : Str → Option Value} {base : Heap} {A : Around} {outer : List Env} {s : Shared} {H : Hp} (e : Env0 P w K mg base A outer s H) (C : Addr) (us : List Value) (kw : List (Str × Value)) :
    Env0 P w K mg base (A.under (.builtin "type.__call__" ⟨.ref C :: us, kw⟩)) outer s H := ⟨by first | exact e.frames | (simpa [Around.under, Code.envs, Code.isFrame, pushEnvs] using e.frames), e.mod, e.bs, e.bsz, e.funs, e.frf, e.hok, e.bare⟩
theorem Env0.in1 {P : Program} {w : World} {K : PySem.W.Frag} {mg : Str → Option Value} {base : Heap} {A : Around} {outer : List Env} {s : Shared} {H : Hp} (e : Env0 P w K mg base A outer s H) :
    Env0 P w K mg base A.in1 outer s H := ⟨e.frames, e.mod, e.bs, e.bsz, e.funs, e.frf, e.hok, e.bare⟩

section
variable {X : Cx} {pins : List (Addr × Obj)} {σ : St} {H : Hp} {s s' : Shared}
/-- from a body: what a callee wants -/
theorem Inv.env0 (I : Inv X pins σ H s) : Env0 X.prog X.w X.K X.mg X.base X.A X.stack s H :=
  ⟨I.ok.frames, I.ok.mod, I.bs, Nat.le_trans I.ok.bsz I.sz, I.stack, I.stkFree, I.hok, I.bare⟩
/-- behind a call -/
theorem Inv.after {Q : VK} {u : Value} (I : Inv X pins σ H s) (h : CE X.stack X.prog X.w H s Q u s') : EP X pins σ Q u s' := by
  obtain ⟨v, H', os, bare, un, hok, r, q⟩ := h
  obtain ⟨hh, g, d, t, os'⟩ := s'
  obtain rfl : os' = s.os := os
  exact ⟨v, H', I.call (h' := hh) (g' := g) (d' := d) (t' := t) (ch := []) un hok bare (fun b z => absurd z (by simp)), r, q⟩
end

/-! ### calls -/
/-- f(..): the written arguments, then the defaults dvs; E: what is wanted of an exception -/
def tCall (sp : Sp) (dvs : List V) (E : XK) (t : TA) : TE := fun σ H Q => t σ H fun vs H1 => sp (vs ++ dvs) H1 Q E
/-- o.m(..) of an instance of the class at C -/
def tMeth (C : Addr) (m : Str) (sp : Sp) (dvs : List V) (E : XK) (ta : TE) (t : TA) : TE := fun σ H Q => ta σ H fun x H1 => ∃ a dx fs, x = .ref a ∧ H1 a = some (.ins C dx fs) ∧ fs.lookup m = none ∧
  t σ H1 fun vs H2 => sp (x :: (vs ++ dvs)) H2 Q E
/-- C(..): a new instance and its dict, then __init__ -/
def tMake (C : Addr) (sp : Sp) (dvs : List V) (E : XK) (t : TA) : TE := fun σ H Q => t σ H fun vs H1 => ∀ x dx, H1 x = none → H1 dx = none → dx ≠ x →
  sp (.ref x :: (vs ++ dvs)) (upd (upd H1 dx (.own x)) x (.ins C dx [])) (fun v H2 => v = .non ∧ Q (.ref x) H2) E

/-- how the parameters are bound: us the positional arguments, kw the keywords' values by name, ds the defaults that fill up -/
def Binds (K : PySem.W.Frag) (fd : FuncData) (ps : List Str) (ds : List Value) : Prop :=
  ∀ (s : Shared) (us : List Value), K.In s.heap → (us ++ ds).length = ps.length → BindsTo s fd ⟨us, []⟩ (ps.zip (us ++ ds))
/-- every parameter is given -/
theorem Binds.all {K : PySem.W.Frag} {fd : FuncData} {ps : List Str} (h : ∀ us : List Value, us.length = ps.length → bindArgs fd ⟨us, []⟩ = pure (ps.zip us)) : Binds K fd ps [] := fun s us _ hl => by
  rw [List.append_nil] at hl ⊢
  exact .of_eq (h us hl)

/-- an exception of a callee reaches what this body wants of exceptions -/
def Passes (CX : CXT) (X : Cx) (E : XK) : Prop := ∀ (pins : List (Addr × Obj)) (σ : St) (H : Hp) (s : Shared) (e : Value) (s' : Shared), Inv X pins σ H s → CX X.stack H s E e s' → X.xe e s'

section
variable {X : Cx} {CX : CXT} {k : Nat} {f C : Addr} {fd : FuncData} {ps : List Str} {sp : Sp} {dvs : List V} {ds : List Value} {E : XK} {x m : Str} {p pos apos : Pos} {e o : Expr} {es : List Expr} {ta : TE} {t : TA}

/-- the callee runs -/
theorem run_fn {pins : List (Addr × Obj)} {σ : St} {H : Hp} {s : Shared} {Q : VK} {us : List Value} {vs : List V} (F : FnOk X.prog X.w X.K X.mg X.base CX k f fd ps sp) (hr : Room k X.A) (hb : Binds X.K fd ps ds) (hd : Vals dvs ds) (hx : Passes CX X E)
    (I : Inv X pins σ H s) (r : Vals vs us) (h : sp (vs ++ dvs) H Q E) : wpAny (model X.prog X.w) X.A (call (.ref f) us) (EP X pins σ Q) X.xe s := by
  have r2 : Vals (vs ++ dvs) (us ++ ds) := r.append hd
  have hl : (us ++ ds).length = ps.length := by rw [← r2.length]; exact F.len _ _ _ _ h
  refine wpAny_call (codeAny_mono (F.run X.A X.stack s H ⟨us, []⟩ (us ++ ds) (vs ++ dvs) Q E hr I.env0 (hb s us I.kIn hl) r2 h) fun r s' hq => ?_)
  cases r with
  | error e => exact hx pins σ H s e s' I hq
  | ok fl =>
    cases fl with
    | ret u => exact I.after hq
    | next => exact False.elim hq
    | brk => exact False.elim hq
    | cont => exact False.elim hq

theorem pe_call (F : FnOk X.prog X.w X.K X.mg X.base CX k f fd ps sp) (hr : Room k X.A) (hg : Gl X x) (hm : X.mg x = some (.ref f)) (hk : PySem.W.keepIn X.K (.ref f) = true) (hb : Binds X.K fd ps ds) (hd : Vals dvs ds) (hx : Passes CX X E)
    (ha : PA X (e :: es) t) (hdb : (x == ("__debug__" : Str)) = false := by decide) (he : starEach (e :: es) X.env = (false, eval e X.env) :: starEach es X.env := by rfl) (hpl : (backTo pos (starEach es X.env)).any (·.1) = false := by rfl) :
    PE X (.Call (.Name x p) (e :: es) [] pos) (tCall sp dvs E t) := by
  intro pins s σ H Q I h
  refine wpAny_Call_Name_kw (ld_glob I hg hm ?_ hdb)
  refine PySem.W.callWith_K (h₀ := X.base) I.ok.mod.kin hk (thn (ha pos pins s σ H _ I h) fun us s1 ⟨vs, H1, I1, r, q⟩ => ⟨I1.kIn, ?_⟩) he hpl
  exact run_fn F hr hb hd hx I1 r q
theorem pe_call0 (F : FnOk X.prog X.w X.K X.mg X.base CX k f fd ps sp) (hr : Room k X.A) (hg : Gl X x) (hm : X.mg x = some (.ref f)) (hk : PySem.W.keepIn X.K (.ref f) = true) (hb : Binds X.K fd ps ds) (hd : Vals dvs ds) (hx : Passes CX X E)
    (hdb : (x == ("__debug__" : Str)) = false := by decide) : PE X (.Call (.Name x p) [] [] pos) (tCall sp dvs E tNil) := by
  intro pins s σ H Q I h
  refine wpAny_Call_Name_kw (ld_glob I hg hm ?_ hdb)
  exact PySem.W.callWith_K0 I.kIn hk (run_fn (us := []) F hr hb hd hx I .nil h)

/-- o.m(e, ..) -/
theorem pe_meth {pl : Sem Bool} (he : PE X o ta) (c : Cls X.K C) (hm : Meth X.K C m f) (F : FnOk X.prog X.w X.K X.mg X.base CX k f fd ps sp) (hr : Room k X.A) (hb : Binds X.K fd ps ds) (hd : Vals dvs ds) (hx : Passes CX X E) (ha : PA X (e :: es) t)
    (hst : starEach (e :: es) X.env = (false, eval e X.env) :: starEach es X.env := by rfl) (hpl : (backTo pos (starEach es X.env)).any (·.1) = false := by rfl)
    (ht : eval (.Call (.Attribute o m apos) (e :: es) [] pos) X.env = (do
      let ov ← eval o X.env
      standAt apos.atName
      let (f, first) ← holding [ov] (getMethod ov m pl)
      callWith pos f first (backTo pos (starEach (e :: es) X.env)) (backToKw pos (keywordEach [] X.env))) := by rfl) :
    PE X (.Call (.Attribute o m apos) (e :: es) [] pos) (tMeth C m sp dvs E ta t) := by
  intro pins s σ H Q I h
  refine PySem.W.methodCall_KW (pl := pl) (thn (he pins s σ H _ I h) fun u s1 ⟨x, H1, I1, rx, a, dx, fs, ex, ea, l, q⟩ => ?_) ht
  subst ex
  obtain rfl : u = Value.ref a := rx
  refine getmeth_ok I1 ea c hm l ?_
  refine PySem.W.callWith_K (first := [.ref a]) (h₀ := X.base) I.ok.mod.kin hm.kp (thn (ha pos pins s1 σ H1 _ I1 q) fun us s2 ⟨vs, H2, I2, r, q2⟩ => ⟨I2.kIn, ?_⟩) hst hpl
  exact run_fn (us := .ref a :: us) (vs := .ref a :: vs) F hr hb hd hx I2 (.cons rfl r) q2
/-- o.m() -/
theorem pe_meth0 {pl : Sem Bool} (he : PE X o ta) (c : Cls X.K C) (hm : Meth X.K C m f) (F : FnOk X.prog X.w X.K X.mg X.base CX k f fd ps sp) (hr : Room k X.A) (hb : Binds X.K fd ps ds) (hd : Vals dvs ds) (hx : Passes CX X E)
    (ht : eval (.Call (.Attribute o m apos) [] [] pos) X.env = (do
      let ov ← eval o X.env
      standAt apos.atName
      let (f, first) ← holding [ov] (getMethod ov m pl)
      callWith pos f first (backTo pos (starEach [] X.env)) (backToKw pos (keywordEach [] X.env))) := by rfl) :
    PE X (.Call (.Attribute o m apos) [] [] pos) (tMeth C m sp dvs E ta tNil) := by
  intro pins s σ H Q I h
  refine PySem.W.methodCall_KW (pl := pl) (thn (he pins s σ H _ I h) fun u s1 ⟨x, H1, I1, rx, a, dx, fs, ex, ea, l, q⟩ => ?_) ht
  subst ex
  obtain rfl : u = Value.ref a := rx
  refine getmeth_ok I1 ea c hm l ?_
  exact PySem.W.callWith_K0 (first := [.ref a]) I1.kIn hm.kp (run_fn (us := [.ref a]) (vs := [.ref a]) F hr hb hd hx I1 (.cons rfl .nil) q)

/-- what a class must have to be made -/
structure Mk (K : PySem.W.Frag) (C f : Addr) : Prop where
  makes : PySem.W.makesIn K C = true
  init : PySem.W.findIn K (.ref C) "__init__" = some (some (.ref f))
  fn : PySem.W.isFn K (.ref f) = true
  kp : PySem.W.keepIn K (.ref C) = true

theorem run_make {pins : List (Addr × Obj)} {σ : St} {H : Hp} {s : Shared} {Q : VK} {us : List Value} {vs : List V} (M : Mk X.K C f) (F : FnOk X.prog X.w X.K X.mg X.base CX k f fd ps sp) (hr : Room (k + 1) X.A) (hb : Binds X.K fd ps ds) (hd : Vals dvs ds)
    (hx : Passes CX X E) (I : Inv X pins σ H s) (r : Vals vs us)
    (h : ∀ x dx, H x = none → H dx = none → dx ≠ x → sp (.ref x :: (vs ++ dvs)) (upd (upd H dx (.own x)) x (.ins C dx [])) (fun v H2 => v = .non ∧ Q (.ref x) H2) E) :
    wpAny (model X.prog X.w) X.A (call (.ref C) us) (EP X pins σ Q) X.xe s := by
  have hq := h (s.heap.objs.size + 1) s.heap.objs.size (I.hok.fresh (Nat.le_succ _)) (I.hok.fresh (Nat.le_refl _)) (Nat.ne_of_lt (Nat.lt_succ_self _))
  have I2 := Inv.made (C := C) I
  have r2 : Vals (V.ref (s.heap.objs.size + 1) :: (vs ++ dvs)) (Value.ref (s.heap.objs.size + 1) :: (us ++ ds)) := .cons rfl (r.append hd)
  have hl : (Value.ref (s.heap.objs.size + 1) :: us ++ ds).length = ps.length := by
    have e := r2.length
    rw [F.len _ _ _ _ hq] at e
    exact e.symm
  refine wpAny_call (make_map (f := f) I.kIn M.makes M.init (beq_iff_eq.mp M.fn) (codeAny_mono (F.run _ X.stack _ _ ⟨Value.ref (s.heap.objs.size + 1) :: us, []⟩ (Value.ref (s.heap.objs.size + 1) :: (us ++ ds)) _ _ E (hr.make C us [])
    (I2.env0.make C us []) (hb _ (Value.ref (s.heap.objs.size + 1) :: us) I2.kIn hl) r2 hq) fun r s' hq' => ?_))
  cases r with
  | error e => exact hx pins σ _ _ e s' I2 hq'
  | ok fl =>
    cases fl with
    | ret u =>
      obtain ⟨v, H', I3, rv, ev, q3⟩ := I2.after hq'
      subst ev
      exact ⟨rv, ⟨V.ref (s.heap.objs.size + 1), H', I3, rfl, q3⟩⟩
    | next => exact False.elim hq'
    | brk => exact False.elim hq'
    | cont => exact False.elim hq'
theorem pe_make (M : Mk X.K C f) (F : FnOk X.prog X.w X.K X.mg X.base CX k f fd ps sp) (hr : Room (k + 1) X.A) (hg : Gl X x) (hm : X.mg x = some (.ref C)) (hb : Binds X.K fd ps ds) (hd : Vals dvs ds) (hx : Passes CX X E)
    (ha : PA X (e :: es) t) (hdb : (x == ("__debug__" : Str)) = false := by decide) (he : starEach (e :: es) X.env = (false, eval e X.env) :: starEach es X.env := by rfl) (hpl : (backTo pos (starEach es X.env)).any (·.1) = false := by rfl) :
    PE X (.Call (.Name x p) (e :: es) [] pos) (tMake C sp dvs E t) := by
  intro pins s σ H Q I h
  refine wpAny_Call_Name_kw (ld_glob I hg hm ?_ hdb)
  refine PySem.W.callWith_K (h₀ := X.base) I.ok.mod.kin M.kp (thn (ha pos pins s σ H _ I h) fun us s1 ⟨vs, H1, I1, r, q⟩ => ⟨I1.kIn, ?_⟩) he hpl
  exact run_make M F hr hb hd hx I1 r q
theorem pe_make0 (M : Mk X.K C f) (F : FnOk X.prog X.w X.K X.mg X.base CX k f fd ps sp) (hr : Room (k + 1) X.A) (hg : Gl X x) (hm : X.mg x = some (.ref C)) (hb : Binds X.K fd ps ds) (hd : Vals dvs ds) (hx : Passes CX X E)
    (hdb : (x == ("__debug__" : Str)) = false := by decide) : PE X (.Call (.Name x p) [] [] pos) (tMake C sp dvs E tNil) := by
  intro pins s σ H Q I h
  refine wpAny_Call_Name_kw (ld_glob I hg hm ?_ hdb)
  exact PySem.W.callWith_K0 I.kIn M.kp (run_make (us := []) M F hr hb hd hx I .nil h)
end

/-! ### keywords -/
/-- the values of the keywords, from the left -/
def PK (X : Cx) (kws : List Keyword) (t : TA) : Prop :=
  ∀ (pos : Pos) (pins : List (Addr × Obj)) (s : Shared) (σ : St) (H : Hp) (Q : List V → Hp → Prop), Inv X pins σ H s → t σ H Q → wpAny (model X.prog X.w) X.A (evalAll ((backToKw pos (keywordEach kws X.env)).map (·.2))) (AP X pins σ Q) X.xe s
section
variable {X : Cx} {CX : CXT} {k : Nat} {f C : Addr} {fd : FuncData} {ps ks : List Str} {sp : Sp} {E : XK} {x m : Str} {p pos apos kpos : Pos} {e o : Expr} {es : List Expr} {kws : List Keyword} {te ta : TE} {t tk : TA} {nm : Option Str}
theorem pk_nil : PK X [] tNil := fun _ _ _ _ H Q I h => wpAny_evalAll_nil ⟨[], H, I, .nil, h⟩
theorem pk_cons (ha : PE X e te) (hr : PK X kws t) : PK X (⟨nm, e, kpos⟩ :: kws) (tCons te t) := by
  intro pos pins s σ H Q I h
  show wpAny _ _ (evalAll ((do let v ← eval e X.env; standAt pos; pure v) :: (backToKw pos (keywordEach kws X.env)).map (·.2))) _ _ s
  refine wpAny_evalAll_cons (wpAny_bind (thn (ha pins s σ H _ I h) fun u s1 ⟨x, H1, I1, r1, q1⟩ => wpAny_bind (wpAny_standAt (wpAny_pure ?_))))
  exact thn (hr pos pins s1 σ H1 _ I1 q1) fun us s2 ⟨xs, H2, I2, r2, q2⟩ => ⟨x :: xs, H2, I2, .cons r1 r2, q2⟩

/-- how a call with keywords binds: g puts the positional values us and the keywords' values ws (names ks) in the parameters' order, defaults among them -/
structure KBinds (K : PySem.W.Frag) (fd : FuncData) (ps ks : List Str) (g : List Value → List Value → List Value) (gV : List V → List V → List V) : Prop where
  to : ∀ (s : Shared) (us ws : List Value), K.In s.heap → (g us ws).length = ps.length → BindsTo s fd ⟨us, ks.zip ws⟩ (ps.zip (g us ws))
  rel : ∀ {vs : List V} {us : List Value} {zs : List V} {ws : List Value}, Vals vs us → Vals zs ws → Vals (gV vs zs) (g us ws)
def tCallK (sp : Sp) (gV : List V → List V → List V) (E : XK) (t tk : TA) : TE := fun σ H Q => t σ H fun vs H1 => tk σ H1 fun zs H2 => sp (gV vs zs) H2 Q E
variable {g : List Value → List Value → List Value} {gV : List V → List V → List V}
theorem run_fnk {pins : List (Addr × Obj)} {σ : St} {H : Hp} {s : Shared} {Q : VK} {us ws : List Value} {vs zs : List V} (F : FnOk X.prog X.w X.K X.mg X.base CX k f fd ps sp) (hr : Room k X.A) (hb : KBinds X.K fd ps ks g gV) (hx : Passes CX X E)
    (I : Inv X pins σ H s) (r : Vals vs us) (rz : Vals zs ws) (h : sp (gV vs zs) H Q E) : wpAny (model X.prog X.w) X.A (call (.ref f) us (ks.zip ws)) (EP X pins σ Q) X.xe s := by
  have r2 := hb.rel r rz
  have hl : (g us ws).length = ps.length := by rw [← r2.length]; exact F.len _ _ _ _ h
  refine wpAny_call (codeAny_mono (F.run X.A X.stack s H ⟨us, ks.zip ws⟩ (g us ws) (gV vs zs) Q E hr I.env0 (hb.to s us ws I.kIn hl) r2 h) fun r s' hq => ?_)
  cases r with
  | error e => exact hx pins σ H s e s' I hq
  | ok fl =>
    cases fl with
    | ret u => exact I.after hq
    | next => exact False.elim hq
    | brk => exact False.elim hq
    | cont => exact False.elim hq
/-- f(e, .., k = v, ..) -/
theorem pe_callK (F : FnOk X.prog X.w X.K X.mg X.base CX k f fd ps sp) (hr : Room k X.A) (hg : Gl X x) (hm : X.mg x = some (.ref f)) (hk : PySem.W.keepIn X.K (.ref f) = true) (hb : KBinds X.K fd ps ks g gV) (hx : Passes CX X E)
    (ha : PA X (e :: es) t) (hkw : PK X kws tk) (hall : (backToKw pos (keywordEach kws X.env)).all (·.1.isSome) = true := by rfl) (hks : (backToKw pos (keywordEach kws X.env)).filterMap (·.1) = ks := by rfl)
    (hdb : (x == ("__debug__" : Str)) = false := by decide) (he : starEach (e :: es) X.env = (false, eval e X.env) :: starEach es X.env := by rfl)
    (hpl : ((backTo pos (starEach (e :: es) X.env)).any (·.1) || (backToKw pos (keywordEach kws X.env)).any (·.1.isNone)) = false := by rfl) :
    PE X (.Call (.Name x p) (e :: es) kws pos) (tCallK sp gV E t tk) := by
  intro pins s σ H Q I h
  refine wpAny_Call_Name_kw (ld_glob I hg hm ?_ hdb)
  refine PySem.W.callWith_KW (h₀ := X.base) I.ok.mod.kin hk hall (thn (ha pos pins s σ H _ I h) fun us s1 ⟨vs, H1, I1, r, q⟩ => ?_) hpl he
  refine thn (hkw pos pins s1 σ H1 _ I1 q) fun ws s2 ⟨zs, H2, I2, rz, q2⟩ => ⟨I2.kIn, ?_⟩
  rw [hks]
  exact run_fnk F hr hb hx I2 r rz q2
end

/-! ### a def's body keeps its promise -/
/-- names: the parameters first -/
structure FnScope (N P : List Str) (sc : Scope) : Prop where
  kind : sc.kind = .function
  co : sc.isCoroutine = false
  gen : sc.isGenerator = false
  nd : N.Nodup
  pre : N.take P.length = P
  par : ∀ x ∈ P, sc.names.lookup x = some .local ∨ sc.names.lookup x = some .cell
  nofree : ∀ y ∈ sc.names, y.2 ≠ .free

theorem bindL_out {kindOf : Str → Option NameKind} {x : Str} : ∀ {binds : List (Str × Value)} {m : Str → Option Value}, (∀ v, (x, v) ∉ binds) → bindL kindOf binds m x = m x
  | [], _, _ => rfl
  | (n, v) :: r, m, h => by
    unfold bindL
    rw [bindL_out fun w hw => h w (List.mem_cons_of_mem _ hw)]
    split
    · have : x ≠ n := by rintro rfl; exact h v List.mem_cons_self
      simp [this]
    · rfl
theorem bindC_out {kindOf : Str → Option NameKind} {x : Str} : ∀ {binds : List (Str × Value)} {m : Str → Option Value}, (∀ v, (x, v) ∉ binds) → bindC kindOf binds m x = m x
  | [], _, _ => rfl
  | (n, v) :: r, m, h => by
    unfold bindC
    rw [bindC_out fun w hw => h w (List.mem_cons_of_mem _ hw)]
    split
    · rfl
    · have : x ≠ n := by rintro rfl; exact h v List.mem_cons_self
      simp [this]
theorem bindL_get {kindOf : Str → Option NameKind} {x : Str} {v : Value} : ∀ {P : List Str} {vs : List Value} {i : Nat} {m : Str → Option Value}, P.Nodup → P[i]? = some x → vs[i]? = some v → kindOf x = some .local →
    bindL kindOf (P.zip vs) m x = some v
  | [], _, _, _, _, h, _, _ => by simp at h
  | _ :: _, [], _, _, _, _, h, _ => by simp at h
  | p :: P, w :: vs, 0, m, nd, h1, h2, hk => by
    simp at h1 h2; subst h1; subst h2
    show bindL kindOf ((p, w) :: P.zip vs) m p = _
    unfold bindL
    rw [bindL_out fun v hv => (List.nodup_cons.mp nd).1 (List.of_mem_zip hv).1, if_pos hk]
    simp
  | p :: P, w :: vs, i + 1, m, nd, h1, h2, hk => by
    show bindL kindOf ((p, w) :: P.zip vs) m x = _
    unfold bindL
    exact bindL_get (i := i) (List.nodup_cons.mp nd).2 (by simpa using h1) (by simpa using h2) hk
theorem bindC_get {kindOf : Str → Option NameKind} {x : Str} {v : Value} : ∀ {P : List Str} {vs : List Value} {i : Nat} {m : Str → Option Value}, P.Nodup → P[i]? = some x → vs[i]? = some v → kindOf x ≠ some .local →
    bindC kindOf (P.zip vs) m x = some v
  | [], _, _, _, _, h, _, _ => by simp at h
  | _ :: _, [], _, _, _, _, h, _ => by simp at h
  | p :: P, w :: vs, 0, m, nd, h1, h2, hk => by
    simp at h1 h2; subst h1; subst h2
    show bindC kindOf ((p, w) :: P.zip vs) m p = _
    unfold bindC
    rw [bindC_out fun v hv => (List.nodup_cons.mp nd).1 (List.of_mem_zip hv).1, if_neg hk]
    simp
  | p :: P, w :: vs, i + 1, m, nd, h1, h2, hk => by
    show bindC kindOf ((p, w) :: P.zip vs) m x = _
    unfold bindC
    exact bindC_get (i := i) (List.nodup_cons.mp nd).2 (by simpa using h1) (by simpa using h2) hk

/-- the names' values at the entry -/
def start (N : List Str) (vs : List V) : St := vs.map some ++ List.replicate (N.length - vs.length) none

/-- the context of a def's body, at its entry; an exception leaves the frame, then lies as CX says -/
def cxOf (CX : CXT) (P : Program) (w : World) (K : PySem.W.Frag) (mg : Str → Option Value) (base : Heap) (N : List Str) (qual : Str) (scope : Scope) (f : Addr) (cd : Value) (A : Around) (outer : List Env) (s : Shared) (H : Hp) (E : XK) : Cx where
  prog := P
  w := w
  K := K
  mg := mg
  base := base
  A := A.deeper (envOfC qual scope s.heap.objs.size f cd)
  N := N
  s₀ := s
  H₀ := H
  env := envOfC qual scope s.heap.objs.size f cd
  outer := outer
  stack := envOfC qual scope s.heap.objs.size f cd :: outer
  ex := []
  calm := true
  fn := fun _ => true
  pn := []
  xe := fun e s' => wpAny (model P w) (A.deeper (envOfC qual scope s.heap.objs.size f cd)) (leaving (envOfC qual scope s.heap.objs.size f cd) e) (fun _ s'' => CX outer H s E e s'') (fun e' s'' => CX outer H s E e' s'') s'

theorem cell_has {sc : Scope} {n : Nat} {x : Str} (h : sc.names.lookup x = some .cell) : ∃ c, (cellsFrom n sc.names []).lookup x = some c := by
  have q := PySem.W.cellsFrom_some sc.names n [] (.inl h)
  exact Option.isSome_iff_exists.mp q

theorem inv_start {CX : CXT} {P : Program} {w : World} {K : PySem.W.Frag} {mg : Str → Option Value} {base : Heap} {N ps : List Str} {qual : Str} {scope : Scope} {f : Addr} {cd : Value} {A : Around} {outer : List Env} {s s1 : Shared} {H : Hp} {E : XK} {us : List Value} {vs : List V}
    (S : FnScope N ps scope) (hd : A.handled = none) (e0 : Env0 P w K mg base A outer s H) (hl : vs.length = ps.length) (r : Vals vs us)
    (x : InCallC s s.heap.objs.size (bindL (envOfC qual scope s.heap.objs.size f cd).kindOf (ps.zip us) fun _ => none) (cellsFrom (s.heap.objs.size + 1) scope.names []) (bindC (envOfC qual scope s.heap.objs.size f cd).kindOf (ps.zip us) fun _ => none) s1) :
    Inv (cxOf CX P w K mg base N qual scope f cd A outer s H E) [] (start N vs) H s1 := by
  have hpl : ps.length ≤ N.length := by have := congrArg List.length S.pre; rw [List.length_take] at this; omega
  obtain ⟨h1, tk, rfl, hk⟩ := x.done
  have noA : ∀ b : Addr, b ∉ (cxOf CX P w K mg base N qual scope f cd A outer s H E).ex := fun b z => absurd (show b ∈ ([] : List Addr) from z) (by simp)
  refine ⟨⟨e0.mod, S.kind, rfl, rfl, Nat.le_refl _, fun y z c h1 h2 => ?_, fun y hy => ?_, fun y c _ h => ?_, fun _ => hd, Around.frames_deeper e0.frames, .inr ⟨rfl, rfl⟩, fun b z => absurd z (noA b), e0.bs, e0.bsz, fun b _ _ => noA b, fun b z => absurd z (noA b), e0.funs, e0.frf⟩,
    rfl, e0.bare, Un.kept hk, ⟨_, x.toInCall.ns, fun i y v h1 h2 h3 => ?_⟩, fun y c h => ⟨_, x.cell y c h⟩, e0.hok.fresh (Nat.le_refl _), fun y c h => ?_, fun p hp => absurd (show p ∈ ([] : List (Addr × Obj)) from hp) (by simp), e0.hok.kept hk, ?_⟩
  · exact name_of_addr x.apart (PySem.mem_of_lookup h1) (PySem.mem_of_lookup h2)
  · have hy : scope.names.lookup y = some .cell ∨ scope.names.lookup y = some .free := hy
    rcases hy with hy | hy
    · exact cell_has hy
    · exact absurd rfl (S.nofree _ (PySem.mem_of_lookup hy))
  · exact Nat.le_of_lt (x.above y c (PySem.mem_of_lookup h))
  · have hi : i < vs.length := by
      unfold start at h2
      by_cases hi : i < vs.length
      · exact hi
      · rw [List.getElem?_append_right (by simpa using hi)] at h2
        rw [List.getElem?_replicate] at h2
        split at h2 <;> cases h2
    have ha : vs[i]? = some v := by
      unfold start at h2
      rw [List.getElem?_append_left (by simpa using hi), List.getElem?_map] at h2
      cases e : vs[i]? with
      | none => rw [e] at h2; cases h2
      | some a => rw [e] at h2; cases h2; rfl
    obtain ⟨u, hu, rv⟩ := r.get ha
    have hp : ps[i]? = some y := by
      rw [← S.pre, List.getElem?_take_of_lt (by omega)]; exact h1
    have ndP : ps.Nodup := by rw [← S.pre]; exact S.nd.sublist (List.take_sublist _ _)
    refine ⟨u, rv, ?_⟩
    rcases S.par y (List.mem_of_getElem? hp) with k | k
    · exact .inl ⟨k, bindL_get ndP hp hu k⟩
    · obtain ⟨c, e⟩ := cell_has (n := s.heap.objs.size + 1) k
      refine .inr ⟨.inl k, c, e, ?_⟩
      have q := x.cell y c e
      rw [bindC_get ndP hp hu (by show scope.names.lookup y ≠ _; rw [k]; decide)] at q
      exact q
  · exact e0.hok.fresh (Nat.le_of_lt (x.above y c (PySem.mem_of_lookup h)))
  · unfold start
    show _ = N.length
    rw [List.length_append, List.length_map, List.length_replicate]
    omega

/-- THE RULE: a def (or a method) of the text, by its body. The body's reading t is chosen for each entry; it is run at the parameters' values -/
theorem fn_of {CX : CXT} {P : Program} {w : World} {K : PySem.W.Frag} {mg : Str → Option Value} {base : Heap} {k : Nat} {f : Addr} {name qual : Str} {params : Arguments} {body : List Stmt} {scope : Scope} {dV kV doc pm cdv ct oc : Value} {an od : Option Addr}
    {osl : Array (Option Value)} {N ps : List Str} {sp : Sp} (lk : K.lookup f = some ⟨oc, od, .func (PySem.W.fnOf name qual params body scope dV kV doc pm an cdv ct), osl⟩) (hcd : PySem.W.codeIn K cdv qual = true) (S : FnScope N ps scope)
    (len : ∀ vs H Q E, sp vs H Q E → vs.length = ps.length)
    (hbody : ∀ (A : Around) (outer : List Env) (s : Shared) (H : Hp) (vs : List V) (Q : VK) (E : XK), Room k (A.deeper (envOfC qual scope s.heap.objs.size f cdv)) → sp vs H Q E →
      ∃ t, PSs (cxOf CX P w K mg base N qual scope f cdv A outer s H E) body t ∧ t { nx := fun _ H' => Q .non H', rt := Q } (start N vs) H) :
    FnOk P w K mg base CX (k + 1) f (PySem.W.fnOf name qual params body scope dV kV doc pm an cdv ct) ps sp := by
  refine ⟨len, fun A outer s H args us vs Q E hr e0 hb r hsp => ?_⟩
  have hl := len _ _ _ _ hsp
  have KX : K.In s.heap := e0.mod.kin.keeps fun b o e => (e0.bs b o e).1
  have lim : s.heap.NoLimit := e0.mod.nolimit.keeps fun b o e => (e0.bs b o e).1
  have hkind : ∀ y ∈ ps.zip us, scope.names.lookup y.1 = some .local ∨ (scope.names.lookup y.1 = some .cell ∧ ((cellsFrom (s.heap.objs.size + 1) scope.names []).lookup y.1).isSome = true) := fun ⟨n, v⟩ hy => by
    rcases S.par n (List.of_mem_zip hy).1 with q | q
    · exact .inl q
    · exact .inr ⟨q, PySem.W.cellsFrom_some _ _ _ (.inl q)⟩
  refine codeAny_call_function hr.depth (KX _ _ lk) rfl S.co S.gen rfl (PySem.W.codeRec_of KX hcd) (hb _ _ _ _ ?_)
  refine wpAny_newFunctionEnv_cells S.kind hkind fun env he s1 x => ?_
  subst he
  refine ⟨lim.keeps x.toInCall.keep, codeAny_func ?_⟩
  obtain ⟨t, ht, hq⟩ := hbody A outer s H vs Q E (hr.deeper _) hsp
  have I : Inv (cxOf CX P w K mg base N qual scope f cdv A outer s H E) [] (start N vs) H s1 := inv_start S hr.hd e0 hl r x
  refine wpAny_mono (ht [] s1 (start N vs) H _ I hq) (fun fl s' hs => ?_) fun e s' hs => hs
  have fin : ∀ {σ' : St} {H' : Hp} {v : V} {u : Value}, Inv (cxOf CX P w K mg base N qual scope f cdv A outer s H E) [] σ' H' s' → RelV v u → Q v H' → CE outer P w H s Q u s' :=
    fun {σ' H' v u} J rv q => ⟨v, H', J.os, J.bare, J.base, J.hok, rv, q⟩
  cases fl with
  | ret u =>
    obtain ⟨v, σ', H', J, rv, q⟩ := hs
    exact fin J rv q
  | next =>
    obtain ⟨σ', H', J, q⟩ := hs
    exact fin (v := V.non) (u := Value.none) J rfl q
  | brk =>
    obtain ⟨_, _, _, q⟩ := hs
    exact False.elim q
  | cont =>
    obtain ⟨_, _, _, q⟩ := hs
    exact False.elim q
end L2

namespace L2
open PySem PySem.Spec PyProof.Rows
section
variable {X : Cx} {x : Str} {p pos : Pos} {e : Expr} {es : List Expr} {t : TA} {id T : String} {r : List V → Hp → VK → Prop}

def tCB (r : List V → Hp → VK → Prop) (t : TA) : TE := fun σ H Q => t σ H fun vs H1 => r vs H1 Q
/-- f(e, ..), f a built-in function -/
theorem pe_callB (hc : CallR X (.builtin id) r) (hg : Gl X x) (hm : X.mg x = none) (hv : bootBuiltins x = some (.builtin id)) (ha : PA X (e :: es) t) (hn : x ≠ "__name__" := by decide) (hdb : (x == ("__debug__" : Str)) = false := by decide)
    (he : starEach (e :: es) X.env = (false, eval e X.env) :: starEach es X.env := by rfl) (hpl : (backTo pos (starEach es X.env)).any (·.1) = false := by rfl) : PE X (.Call (.Name x p) (e :: es) [] pos) (tCB r t) := by
  intro pins s σ H Q I h
  refine wpAny_Call_Name_kw (ld_blt I hg hm hv ?_ hn hdb)
  exact PyProof.Rows.callWith_builtin1 (thn (ha pos pins s σ H _ I h) fun us s1 ⟨vs, H1, I1, r1, q1⟩ => hc pins s1 σ H1 vs us Q I1 r1 q1) he hpl
/-- T(e, ..), T a built-in type -/
theorem pe_callTy (hc : CallR X (.type T) r) (hg : Gl X x) (hm : X.mg x = none) (hv : bootBuiltins x = some (.type T)) (ha : PA X (e :: es) t) (hn : x ≠ "__name__" := by decide) (hdb : (x == ("__debug__" : Str)) = false := by decide)
    (he : starEach (e :: es) X.env = (false, eval e X.env) :: starEach es X.env := by rfl) (hpl : (backTo pos (starEach es X.env)).any (·.1) = false := by rfl) : PE X (.Call (.Name x p) (e :: es) [] pos) (tCB r t) := by
  intro pins s σ H Q I h
  refine wpAny_Call_Name_kw (ld_blt I hg hm hv ?_ hn hdb)
  exact PyProof.Rows.callWith_type1 (thn (ha pos pins s σ H _ I h) fun us s1 ⟨vs, H1, I1, r1, q1⟩ => hc pins s1 σ H1 vs us Q I1 r1 q1) he hpl
/-- T() -/
theorem pe_callTy0 (hc : CallR X (.type T) r) (hg : Gl X x) (hm : X.mg x = none) (hv : bootBuiltins x = some (.type T)) (hn : x ≠ "__name__" := by decide) (hdb : (x == ("__debug__" : Str)) = false := by decide) :
    PE X (.Call (.Name x p) [] [] pos) (tCB r tNil) := by
  intro pins s σ H Q I h
  refine wpAny_Call_Name_kw (ld_blt I hg hm hv ?_ hn hdb)
  exact PyProof.Rows.callWith_type0 (hc pins s σ H [] [] Q I .nil h)
end
end L2

namespace HT
open PySem PyProof.Rows

/-- t < u of tuples of ints -/
def lexLt : List Int → List Int → Bool
  | [], [] => false
  | [], _ :: _ => true
  | _ :: _, [] => false
  | x :: xs, y :: ys => if x = y then lexLt xs ys else decide (x < y)
theorem lexLt_cons (x y : Int) (xs ys : List Int) : lexLt (x :: xs) (y :: ys) = if x = y then lexLt xs ys else decide (x < y) := rfl
theorem lexLt_nil_nil : lexLt [] [] = false := rfl
theorem lexLt_nil_cons (y : Int) (ys : List Int) : lexLt [] (y :: ys) = true := rfl
theorem lexLt_cons_nil (x : Int) (xs : List Int) : lexLt (x :: xs) [] = false := rfl

theorem eqAt_int (A : Around) (s : Shared) (a : Int) (t : Tok) (c : Int) (u : Tok) : ∃ e, SeqAt.EqAt A s (.int a t) (.int c u) e ∧ (e = true ↔ a = c) :=
  ⟨(a == c), SeqAt.EqAt.int_int a t c u, by simp⟩
theorem rcLt_int (A : Around) (s : Shared) (a : Int) (t : Tok) (c : Int) (u : Tok) (prog : Program) (w : World) (E : Value → Shared → Prop) (Q : Value → Shared → Prop) (h : Q (.bool (decide (a < c))) s) :
    wpAny (model prog w) A (richCompare .Lt (.int a t) (.int c u)) Q E s :=
  (PyProof.Rows.lt_int h : wpAny (model prog w) A (compareOp .Lt (.int a t) (.int c u)) Q E s)

section
open PySem.SeqAt
open PySem.AutoSeq1 (wpAny_loadPart')
open PySem.MeetsSeq PySem.MeetsSeq2 PySem.MeetsSeq3

theorem tuple_lt_ints (l b : Addr) (items items2 : Array Value) (n n2 : Nat) (dd dd2 : Option Addr) (sl sl2 : Array (Option Value)) (ns ms : List Int) (hi : IntsAre items.toList ns) (hj : IntsAre items2.toList ms) :
    Meets (Builtin.«tuple.__lt__» ⟨[.ref l, .ref b], []⟩)
      (fun _ R s => s.heap.get? l = some { cls := .type "tuple", dict := dd, data := .seq items n, slots := sl } ∧ s.heap.get? b = some { cls := .type "tuple", dict := dd2, data := .seq items2 n2, slots := sl2 } ∧
        R (.ok (.ret (.bool (lexLt ns ms)))) s) :=
  .of_wp fun prog w A R s h => by
    obtain ⟨hp, g, d, tk, os⟩ := s; obtain ⟨hl, hb, h⟩ := h
    have f2 := AutoSeq1.sub_tuple_tuple
    have z1 : items.size = ns.length := by rw [← hi.length]; simp
    have z2 : items2.size = ms.length := by rw [← hj.length]; simp
    wp_walk using wpAny_loadPart' hl, wpAny_loadPart' hb, wpAny_forIn_list _ (fun rest b s' => b.1 = none ∧ s' = ⟨hp, g, d, tk, os⟩ ∧ ∃ (vs ws : List Value) (ns' ms' : List Int), rest = vs.zip ws ∧
      IntsAre vs ns' ∧ IntsAre ws ms' ∧ ns'.length + items2.size = ms'.length + items.size ∧ R (.ok (.ret (.bool (lexLt ns' ms')))) ⟨hp, g, d, tk, os⟩) _
    case turn =>
      rintro ⟨y, x⟩ rest b s' ⟨hb', rfl, vs, ws, ns', ms', hz, hvi, hwi, hlen, hR⟩
      cases hvi with
      | nil => rw [List.zip_nil_left] at hz; cases hz
      | cons a t hvi' =>
        cases hwi with
        | nil => rw [List.zip_nil_right] at hz; cases hz
        | cons c u hwi' =>
          rw [List.zip_cons_cons] at hz
          injection hz with hyx hrest
          injection hyx with hy hx
          subst hy hx
          rw [lexLt_cons] at hR
          simp only [List.length_cons] at hlen
          obtain ⟨e, he, hiff⟩ := eqAt_int A.in1 ⟨hp, g, d, tk, os⟩ a t c u
          refine wpAny_bind (he prog w _ _ ?_)
          cases e with
          | true =>
            rw [if_pos (hiff.mp rfl)] at hR
            wp_walk
            exact ⟨rfl, rfl, _, _, _, _, hrest, hvi', hwi', by omega, hR⟩
          | false =>
            rw [if_neg (fun q => absurd (hiff.mpr q) Bool.false_ne_true)] at hR
            have hri := rcLt_int A.in1 ⟨hp, g, d, tk, os⟩ a t c u prog w
            wp_walk using hri
            exact ⟨_, rfl, by simpa using hR⟩
    case fin =>
      rintro ⟨b1, b2⟩ s' ⟨hb', rfl, vs, ws, ns', ms', hz, hvi, hwi, hlen, hR⟩
      simp only at hb'
      subst hb'
      have hv : lexLt ns' ms' = decide (items.size < items2.size) := by
        cases hvi with
        | nil =>
          cases hwi with
          | nil =>
            simp only [List.length_nil] at hlen
            rw [lexLt_nil_nil]
            exact (decide_eq_false (by omega)).symm
          | cons c u hw =>
            simp only [List.length_nil, List.length_cons] at hlen
            rw [lexLt_nil_cons]
            exact (decide_eq_true (by omega)).symm
        | cons a t hv =>
          cases hwi with
          | nil =>
            simp only [List.length_nil, List.length_cons] at hlen
            rw [lexLt_cons_nil]
            exact (decide_eq_false (by omega)).symm
          | cons c u hw =>
            rw [List.zip_cons_cons] at hz
            cases hz
      rw [hv] at hR
      wp_walk
      exact ⟨_, rfl, by simpa [Builtin.Tuple.tupleCompareSizes] using hR⟩
    case h =>
      exact ⟨rfl, rfl, items.toList, items2.toList, ns, ms, rfl, hi, hj, by omega, h⟩
end

section
variable {prog : Program} {w : World} {A : Around} {E : Value → Shared → Prop} {s : Shared}

theorem lt_tupInts {l b : Addr} {items items2 : Array Value} {ns ms : List Int} {Q : Value → Shared → Prop} (hl : IsTup s.heap l items) (hb : IsTup s.heap b items2) (hi : IntsAre items.toList ns) (hj : IntsAre items2.toList ms)
    (hu : A.units < cLine) (h : Q (.bool (lexLt ns ms)) s) : wpAny (model prog w) A (compareOp .Lt (.ref l) (.ref b)) Q E s := by
  obtain ⟨⟨cls, dd, data, sl⟩, ho, hc, n, hd⟩ := id hl
  obtain ⟨⟨cls2, dd2, data2, sl2⟩, ho2, hc2, n2, hd2⟩ := id hb
  simp only at hc hd hc2 hd2
  subst hc hd hc2 hd2
  exact richCompare_meets_room (op := .Lt) ⟨_, ho, rfl⟩ ⟨_, ho2, rfl⟩ PySem.F.slot_tuple_lt PySem.F.entry_tuple_lt (PySem.F.args_tuple_lt_2 _ _) (tuple_lt_ints l b items items2 n n2 dd dd2 sl sl2 ns ms hi hj)
    ⟨ho, ho2, show Value.bool (lexLt ns ms) ≠ Value.notImplemented ∧ Q (.bool (lexLt ns ms)) s from ⟨(fun x => nomatch x), h⟩⟩ hu

/-- t + u, t not empty -/
theorem cat_tup {t b : Addr} {vs ws : List Value} {Q : Value → Shared → Prop} (ht : IsTup s.heap t vs.toArray) (hb : IsTup s.heap b ws.toArray) (hv : vs ≠ [])
    (h1 : ws = [] → Q (.ref t) s) (h2 : ws ≠ [] → Q (.ref s.heap.objs.size) { s with heap := s.heap.push { cls := .type "tuple", data := .seq (vs ++ ws).toArray } })
    (hsz : vs.length + ws.length ≤ sizeLine) : wpAny (model prog w) A (binaryOp .Add (.ref t) (.ref b)) Q E s := by
  obtain ⟨⟨cls, dd, data, sl⟩, ho, hc, n, hd⟩ := id ht
  obtain ⟨⟨cls2, dd2, data2, sl2⟩, ho2, hc2, n2, hd2⟩ := id hb
  simp only at hc hd hc2 hd2
  subst hc hd hc2 hd2
  have e : vs.toArray ++ ws.toArray = (vs ++ ws).toArray := by simp
  by_cases hw : ws = []
  · exact concat_meets ⟨_, ho, rfl⟩ ⟨_, ho2, rfl⟩ noFill_tuple_add seq_tuple_add PySem.F.slot_tuple_add PySem.F.entry_tuple_add (PySem.F.args_tuple_add_2 _ _)
      (tuple_addW1 t b vs.toArray ws.toArray n n2 dd dd2 sl sl2 (by simpa using hv) (by simp [hw])) ⟨ho, ho2, h1 hw⟩
  · refine concat_meets ⟨_, ho, rfl⟩ ⟨_, ho2, rfl⟩ noFill_tuple_add seq_tuple_add PySem.F.slot_tuple_add PySem.F.entry_tuple_add (PySem.F.args_tuple_add_2 _ _)
      (tuple_addW2 t b vs.toArray ws.toArray n n2 dd dd2 sl sl2 (by simpa using hv) (by simpa using hw) (by rw [List.size_toArray, List.size_toArray]; exact hsz)) ⟨ho, ho2, ?_⟩
    rw [e]
    exact h2 hw

/-! ### t[a:b], not the whole -/
/-- a slice's bound as a place among n (d where it is left out) -/
def sIx (n d : Nat) : Option Int → Nat
  | none => d
  | some v => if v < 0 then (v + (n : Int)).toNat else min v.toNat n
theorem sIx_none (n d : Nat) : sIx n d none = d := rfl
theorem sIx_nat (n d k : Nat) : sIx n d (some (k : Int)) = min k n := by
  show (if (k : Int) < 0 then ((k : Int) + (n : Int)).toNat else min (k : Int).toNat n) = min k n
  rw [if_neg (by omega), Int.toNat_natCast]
theorem sIx_le (n d : Nat) (hd : d ≤ n) (o : Option Int) : sIx n d o ≤ n := by
  cases o with
  | none => exact hd
  | some v =>
    show (if v < 0 then (v + (n : Int)).toNat else min v.toNat n) ≤ n
    by_cases hv : v < 0
    · rw [if_pos hv]; omega
    · rw [if_neg hv]; exact Nat.min_le_right _ _
theorem clip_eq (v : Int) (n d : Nat) : (if v < 0 then max (v + (n : Int)) 0 else min v (n : Int)) = ((sIx n d (some v) : Nat) : Int) := by
  show (if v < 0 then max (v + (n : Int)) 0 else min v (n : Int)) = (((if v < 0 then (v + (n : Int)).toNat else min v.toNat n) : Nat) : Int)
  by_cases hv : v < 0
  · simp only [if_pos hv]; omega
  · simp only [if_neg hv]; omega
theorem adjust_gen (lo hi : Option Int) (n : Nat) : Builtin.Slice.sliceAdjust lo hi 1 (n : Int) = (((sIx n 0 lo : Nat) : Int), ((sIx n n hi : Nat) : Int)) := by
  have h1 : ¬ ((1 : Int) < 0) := by omega
  unfold Builtin.Slice.sliceAdjust
  simp only [h1, if_false]
  refine Prod.ext ?_ ?_
  · cases lo with
    | none => rfl
    | some v => exact clip_eq v n 0
  · cases hi with
    | none => rfl
    | some v => exact clip_eq v n n
theorem places_gen (i j : Nat) : Builtin.Slice.slicePlaces (i : Int) (j : Int) 1 = j - i := by
  unfold Builtin.Slice.slicePlaces
  have h1 : (1 : Int) > 0 := by omega
  simp only [h1, if_true, Int.ediv_one]
  split <;> omega
theorem slicePart_ {v : Value} {o : Option Int} {Q : Option Int → Shared → Prop} (p : IsPart v o) (h : Q o s) : wpAny (model prog w) A (Builtin.Slice.slicePartIndex v) Q E s := by
  cases p with
  | none => exact slicePart_none h
  | int i t => exact slicePart_int h
theorem sliceApplied_gen {sl : Addr} {vl vu : Value} {lo hi : Option Int} {n : Nat} {Q : Int × Int × Nat → Shared → Prop} (hs : s.heap.IsSliceOf sl vl vu .none) (pl : IsPart vl lo) (pu : IsPart vu hi)
    (h : Q (((sIx n 0 lo : Nat) : Int), 1, sIx n n hi - sIx n 0 lo) s) : wpAny (model prog w) A (Builtin.Slice.sliceApplied (.ref sl) (pure (n : Int))) Q E s := by
  obtain ⟨os, hos, hcs, hds⟩ := id hs
  unfold Builtin.Slice.sliceApplied Builtin.Slice.sliceFields
  refine wpAny_bind (wpAny_bind (wpAny_field hos hds (x := vl) rfl (wpAny_bind (wpAny_field hos hds (x := vu) rfl (wpAny_bind (wpAny_field hos hds (x := .none) rfl (wpAny_pure ?_)))))))
  refine wpAny_bind (slicePart_none ?_)
  show wpAny _ _ (if ((1 : Int) == 0) = true then _ else _) _ _ s
  rw [if_neg (by decide)]
  refine wpAny_bind (slicePart_ pl (wpAny_bind (slicePart_ pu (wpAny_bind (wpAny_pure ?_)))))
  show wpAny _ _ (match Builtin.Slice.sliceAdjust lo hi 1 (n : Int) with | (lo, hi) => pure (lo, (1 : Int), Builtin.Slice.slicePlaces lo hi 1)) _ _ s
  rw [adjust_gen lo hi n]
  show wpAny _ _ (pure (((sIx n 0 lo : Nat) : Int), (1 : Int), Builtin.Slice.slicePlaces ((sIx n 0 lo : Nat) : Int) ((sIx n n hi : Nat) : Int) 1)) _ _ s
  rw [places_gen]
  exact wpAny_pure h
theorem pick_gen (xs : Array Value) (i k : Nat) : ((List.range k).filterMap fun (m : Nat) => xs[((i : Int) + (m : Int) * 1).toNat]?).toArray = ((xs.toList.drop i).take k).toArray := by
  have e : (fun (m : Nat) => xs[((i : Int) + (m : Int) * 1).toNat]?) = fun m => xs[i + m]? := by
    funext m
    have : ((i : Int) + (m : Int) * 1).toNat = i + m := by omega
    rw [this]
  rw [e]
  have := pick_run xs i k
  rw [List.filterMap_map] at this
  have e2 : ((fun x => xs[x]?) ∘ fun x => i + x) = fun m => xs[i + m]? := rfl
  rw [e2] at this
  rw [this]

theorem getItem_tuple_cut {t sl : Addr} {items : Array Value} {vl vu : Value} {lo hi : Option Int} {Q : Value → Shared → Prop} (ht : IsTup s.heap t items) (hs : s.heap.IsSliceOf sl vl vu .none) (pl : IsPart vl lo) (pu : IsPart vu hi)
    (hw : ¬ (sIx items.size 0 lo = 0 ∧ sIx items.size items.size hi = items.size))
    (h : Q (.ref s.heap.objs.size) { s with heap := s.heap.push { cls := .type "tuple", data := .seq ((items.toList.drop (sIx items.size 0 lo)).take (sIx items.size items.size hi - sIx items.size 0 lo)).toArray } })
    (hsz : items.size ≤ sizeLine) : wpAny (model prog w) A (getItem (.ref t) (.ref sl)) Q E s := by
  have htake : sizeOk (.seq ((items.toList.drop (sIx items.size 0 lo)).take (sIx items.size items.size hi - sIx items.size 0 lo)).toArray) := by
    show ((items.toList.drop (sIx items.size 0 lo)).take (sIx items.size items.size hi - sIx items.size 0 lo)).toArray.size ≤ sizeLine
    rw [List.size_toArray, List.length_take, List.length_drop, Array.length_toList]
    omega
  have hj : sIx items.size items.size hi ≤ items.size := sIx_le _ _ (Nat.le_refl _) hi
  obtain ⟨os, hos, hcs, hds⟩ := id hs
  have hTs : s.TypeIs (.ref sl) "slice" := ⟨os, hos, hcs⟩
  unfold getItem
  try with_reducible refine wpAny_holding ?_
  first | refine wpAny_bind (wpAny_pure ?_) | skip
  refine wpAny_bind (wpAny_sequenceKey ht.typeIs (by decide) ?_)
  refine wpAny_bind (wpAny_callSpecial?_slot (name := Str.ofString "__getitem__") ht.typeIs PyProof.Rows.slot_tuple_getitem
    (wpAny_call_entry PyProof.Rows.slot_tuple_getitem ht.typeIs entry_tuple_getitem ?_ (args_tuple_getitem _ _)))
  show wpAny _ _ (Builtin.Tuple.tupleItemsOf (.ref t) >>= _) _ _ s
  refine wpAny_bind (tupleItemsOf_ ht ?_)
  refine wpAny_bind (wpAny_typeOf hTs ?_)
  rw [if_pos (by decide)]
  refine wpAny_bind (sliceApplied_gen hs pl pu ?_)
  have hno : ¬ ((((sIx items.size 0 lo : Nat) : Int) == 0 && (1 : Int) == 1 && (sIx items.size items.size hi - sIx items.size 0 lo) == items.size) = true) := by
    intro q
    rw [Bool.and_eq_true, Bool.and_eq_true] at q
    have q1 : ((sIx items.size 0 lo : Nat) : Int) = 0 := eq_of_beq q.1.1
    have q2 : sIx items.size items.size hi - sIx items.size 0 lo = items.size := eq_of_beq q.2
    exact hw ⟨by omega, by omega⟩
  show wpAny _ _ (if (((sIx items.size 0 lo : Nat) : Int) == 0 && (1 : Int) == 1 && (sIx items.size items.size hi - sIx items.size 0 lo) == items.size) = true then _ else _) _ _ s
  rw [if_neg hno, pick_gen]
  first
    | exact wpAny_bind (m := Builtin.Tuple.tupleExact _) (wpAny_newObj_type (wpAny_pure ⟨_, rfl, wpAny_pure h⟩) htake)
    | exact wpAny_bind (m := Builtin.Tuple.tupleExact _) (wpAny_newObj_type (wpAny_bind (wpAny_pure (wpAny_pure ⟨_, rfl, wpAny_pure h⟩))) htake)
    | exact wpAny_bind (wpAny_bind (m := Builtin.Tuple.tupleExact _) (wpAny_newObj_type (wpAny_pure (wpAny_pure ⟨_, rfl, wpAny_pure h⟩)) htake))
    | exact wpAny_bind (wpAny_bind (m := Builtin.Tuple.tupleExact _) (wpAny_newObj_type (wpAny_pure ⟨_, rfl, wpAny_pure h⟩) htake))
end
end HT

namespace L2
open PySem PySem.Spec PyProof.Rows

/-! ### the parts of a slice -/
abbrev TO := St → Hp → (Option Int → Hp → Prop) → Prop
/-- a slice's part (left out, or an int) -/
def PO (X : Cx) (e : Option Expr) (t : TO) : Prop :=
  ∀ (pins : List (Addr × Obj)) (s : Shared) (σ : St) (H : Hp) (Q : Option Int → Hp → Prop), Inv X pins σ H s → t σ H Q →
    wpAny (model X.prog X.w) X.A (evalPart e X.env) (fun u s' => ∃ o H', Inv X pins σ H' s' ∧ IsPart u o ∧ Q o H') X.xe s
def tNoPart : TO := fun _ H Q => Q none H
def tPart (t : TE) : TO := fun σ H Q => t σ H fun x H1 => ∃ i, x = .int i ∧ Q (some i) H1

theorem intsAre_of {ns : List Int} : ∀ {us : List Value}, Vals (ns.map V.int) us → IntsAre us ns := by
  induction ns with
  | nil => intro us r; rw [List.map_nil] at r; cases r; exact .nil
  | cons n ns ih =>
    intro us r
    rw [List.map_cons] at r
    cases r with
    | cons r1 r2 =>
      obtain ⟨t, e⟩ := r1
      subst e
      exact .cons n t (ih r2)

section
variable {X : Cx} {e : Expr} {te : TE} {lo hi : Option Expr} {tl th : TO} {pos p2 : Pos}

theorem po_none : PO X none tNoPart := by
  intro pins s σ H Q I h
  rw [evalPart_none]
  exact wpAny_pure ⟨none, H, I, .none, h⟩
theorem po_some (h : PE X e te) : PO X (some e) (tPart te) := by
  intro pins s σ H Q I hw
  rw [evalPart_some]
  refine thn (h pins s σ H _ I hw) fun u s1 ⟨x, H1, I1, r1, q1⟩ => ?_
  obtain ⟨i, rfl, q⟩ := q1
  obtain ⟨t, rfl⟩ := r1
  exact ⟨some i, H1, I1, .int i t, q⟩

/-- what a slice of a value is, by values: the slice object stands at sl -/
def SlR (X : Cx) (r : V → Option Int → Option Int → Hp → VK → Prop) : Prop :=
  ∀ (pins : List (Addr × Obj)) (s : Shared) (σ : St) (H : Hp) (x : V) (v vl vu : Value) (lo hi : Option Int) (sl : Addr) (Q : VK), Inv X pins σ H s → RelV x v → s.heap.IsSliceOf sl vl vu .none → IsPart vl lo → IsPart vu hi → r x lo hi H Q →
    ∃ T id, typeLookup (.type T) "__getitem__" = pure (some (.builtin id)) ∧ s.TypeIs v T ∧ wpAny (model X.prog X.w) X.A (getItem v (.ref sl)) (EP X pins σ Q) X.xe s
theorem SlR.or {r r' : V → Option Int → Option Int → Hp → VK → Prop} (h : SlR X r) (h' : SlR X r') : SlR X (fun x lo hi H Q => r x lo hi H Q ∨ r' x lo hi H Q) := by
  intro pins s σ H x v vl vu lo hi sl Q I rx hs pl pu q
  rcases q with q | q
  · exact h pins s σ H x v vl vu lo hi sl Q I rx hs pl pu q
  · exact h' pins s σ H x v vl vu lo hi sl Q I rx hs pl pu q
def tSl (r : V → Option Int → Option Int → Hp → VK → Prop) (te : TE) (tl th : TO) : TE := fun σ H Q => te σ H fun x H1 => tl σ H1 fun l H2 => th σ H2 fun u H3 => r x l u H3 Q
/-- a[lo:hi], any a -/
theorem pe_slice {r : V → Option Int → Option Int → Hp → VK → Prop} (hr : SlR X r) (he : PE X e te) (hl : PO X lo tl) (hu : PO X hi th) : PE X (.Subscript e (.Slice lo hi none p2) pos) (tSl r te tl th) := by
  intro pins s σ H Q I h
  refine Subscript_ (thn (he pins s σ H _ I h) fun v s1 ⟨x, H1, I1, r1, q1⟩ => ?_)
  refine wpAny_Slice (thn (hl pins s1 σ H1 _ I1 q1) fun vl s2 ⟨l, H2, I2, pl, q2⟩ => thn (hu pins s2 σ H2 _ I2 q2) fun vu s3 ⟨u, H3, I3, pu, q3⟩ => ?_)
  rw [evalPart_none]
  refine wpAny_pure ?_
  have I4 : Inv X pins σ H3 { s3 with heap := s3.heap.push { cls := .type "slice", data := .fields #[vl, vu, .none] } } := I3.kept (t' := s3.toks) fun b ob q => Heap.get?_push_of_some _ q
  obtain ⟨T, id, hT, ht, hg⟩ := hr pins { s3 with heap := s3.heap.push { cls := .type "slice", data := .fields #[vl, vu, .none] } } σ H3 x v vl vu l u s3.heap.objs.size Q I4 r1 (Heap.IsSliceOf.new ..) pl pu q3
  show wpAny (model X.prog X.w) X.A (subscriptTail e (.Slice lo hi none p2) v (.ref s3.heap.objs.size)) (EP X pins σ Q) X.xe { s3 with heap := s3.heap.push { cls := .type "slice", data := .fields #[vl, vu, .none] } }
  exact tail_any (ops := [.ref s3.heap.objs.size, v]) ht hT hg (by with_unfolding_all rfl)

/-- the items of xs[lo:hi] -/
def cutV (xs : List V) (lo hi : Option Int) : List V := (xs.drop (HT.sIx xs.length 0 lo)).take (HT.sIx xs.length xs.length hi - HT.sIx xs.length 0 lo)
theorem cutV_length (xs : List V) (lo hi : Option Int) : (cutV xs lo hi).length ≤ xs.length := by
  unfold cutV
  rw [List.length_take, List.length_drop]
  omega
/-- t[lo:hi], not the whole of it (the whole would be t itself) -/
def rSlT (K : PySem.W.Frag) : V → Option Int → Option Int → Hp → VK → Prop := fun x lo hi H Q => ∃ a xs, x = .ref a ∧ SqT K H a xs ∧
  ¬ (HT.sIx xs.length 0 lo = 0 ∧ HT.sIx xs.length xs.length hi = xs.length) ∧ ∀ p, H p = none → Q (.ref p) (upd H p (.tup (cutV xs lo hi)))
theorem sl_tup : SlR X (rSlT X.K) := by
  intro pins s σ H x v vl vu lo hi sl Q I rx hs pl pu h
  obtain ⟨a, xs, rfl, hx, hw, q⟩ := h
  cases rx
  obtain ⟨its, r, ht, hz⟩ := I.tuple hx
  have hlen : its.toArray.size = xs.length := by rw [List.size_toArray]; exact r.length.symm
  refine ⟨"tuple", _, PyProof.Rows.slot_tuple_getitem.lookup, ht.typeIs, ?_⟩
  refine HT.getItem_tuple_cut ht hs pl pu (by rw [hlen]; exact hw) ?_ (by rw [hlen]; exact hz)
  rw [hlen]
  refine ⟨.ref s.heap.objs.size, _, I.laid (t' := s.toks) (o := .tup (cutV xs lo hi)) (fun b ob q => Heap.get?_push_of_some _ q) (Nat.le_refl _) ?_, rfl, q _ (I.hok.fresh (Nat.le_refl _))⟩
  exact ⟨Nat.le_trans (cutV_length xs lo hi) hz, _, (r.drop (HT.sIx xs.length 0 lo)).take (HT.sIx xs.length xs.length hi - HT.sIx xs.length 0 lo), IsTup.new _ _⟩

/-! ### t < u, t + u -/
def rLtT (K : PySem.W.Frag) : R2 := fun x y H Q => ∃ a b ns ms, x = .ref a ∧ y = .ref b ∧ SqT K H a (ns.map V.int) ∧ SqT K H b (ms.map V.int) ∧ Q (.bl (HT.lexLt ns ms)) H
theorem op_ltT (hu : X.A.units < cLine) : OpR X (compareOp .Lt) (rLtT X.K) := by
  intro pins s σ H x y v u Q I rx ry h
  obtain ⟨a, b, ns, ms, rfl, rfl, ha, hb, q⟩ := h
  cases rx
  cases ry
  obtain ⟨its, r1, p1, _⟩ := I.tuple ha
  obtain ⟨its2, r2, p2, _⟩ := I.tuple hb
  have i1 : IntsAre its.toArray.toList ns := intsAre_of r1
  have i2 : IntsAre its2.toArray.toList ms := intsAre_of r2
  exact HT.lt_tupInts p1 p2 i1 i2 hu ⟨.bl (HT.lexLt ns ms), H, I, rfl, q⟩
/-- t + u, t not empty: u empty gives t itself -/
def rCatT (K : PySem.W.Frag) : R2 := fun x y H Q => ∃ a b xs ys, x = .ref a ∧ y = .ref b ∧ SqT K H a xs ∧ SqT K H b ys ∧ xs ≠ [] ∧ xs.length + ys.length ≤ sizeLine ∧
  (ys = [] → Q (.ref a) H) ∧ (ys ≠ [] → ∀ p, H p = none → Q (.ref p) (upd H p (.tup (xs ++ ys))))
theorem Vals.nil_iff {xs : List V} {us : List Value} (r : Vals xs us) : us = [] ↔ xs = [] := by
  cases r with
  | nil => simp
  | cons _ _ => simp
theorem op_catT : OpR X (binaryOp .Add) (rCatT X.K) := by
  intro pins s σ H x y v u Q I rx ry h
  obtain ⟨a, b, xs, ys, rfl, rfl, ha, hb, hx, hz, q1, q2⟩ := h
  cases rx
  cases ry
  obtain ⟨its, r1, p1, _⟩ := I.tuple ha
  obtain ⟨its2, r2, p2, _⟩ := I.tuple hb
  refine HT.cat_tup p1 p2 (fun z => hx (r1.nil_iff.mp z)) (fun z => ⟨.ref a, H, I, rfl, q1 (r2.nil_iff.mp z)⟩) (fun z => ?_) (by rw [← r1.length, ← r2.length]; exact hz)
  refine ⟨.ref s.heap.objs.size, _, I.laid (t' := s.toks) (o := .tup (xs ++ ys)) (fun b ob q => Heap.get?_push_of_some _ q) (Nat.le_refl _) ?_, rfl, q2 (fun w => z (r2.nil_iff.mpr w)) _ (I.hok.fresh (Nat.le_refl _))⟩
  exact ⟨by rw [List.length_append]; exact hz, _, r1.append r2, IsTup.new _ _⟩
/-- tuple(t) -/
theorem call_tupleT : CallR X (.type "tuple") (fun xs H Q => ∃ a ys, xs = [.ref a] ∧ SqT X.K H a ys ∧ Q (.ref a) H) := by
  intro pins s σ H xs us Q I r h
  obtain ⟨a, ys, rfl, ha, q⟩ := h
  obtain ⟨u, rfl, ru⟩ := vals1 r
  cases ru
  obtain ⟨its, _, p1, _⟩ := I.tuple ha
  exact call_tuple_same (items := its.toArray) p1 ⟨.ref a, H, I, rfl, q⟩
end
end L2

namespace L2
open PySem PySem.Spec PyProof.Rows

/-! ### places -/
/-- the place that an index of any sign means -/
def ixN (n : Nat) (i : Int) : Option Nat := if 0 ≤ i then (if i < n then some i.toNat else none) else if -(n : Int) ≤ i then some (i + n).toNat else none
def atI {α : Type} (xs : List α) (i : Int) : Option α := (ixN xs.length i).bind fun j => xs[j]?
theorem ixN_seq {n : Nat} {i : Int} {j : Nat} (h : ixN n i = some j) : seqIndex? i n = some j ∧ j < n ∧ -(n : Int) ≤ i ∧ i < n := by
  unfold ixN at h
  by_cases h0 : 0 ≤ i
  · rw [if_pos h0] at h
    by_cases h1 : i < n
    · rw [if_pos h1] at h
      have e : i.toNat = j := Option.some.inj h
      exact ⟨by rw [seqIndex_of h0 h1, e], by omega, by omega, h1⟩
    · rw [if_neg h1] at h; cases h
  · rw [if_neg h0] at h
    by_cases h1 : -(n : Int) ≤ i
    · rw [if_pos h1] at h
      have e : (i + n).toNat = j := Option.some.inj h
      exact ⟨by rw [seqIndex_neg (by omega) h1, e], by omega, h1, by omega⟩
    · rw [if_neg h1] at h; cases h
theorem atI_get {α : Type} {xs : List α} {i : Int} {v : α} (h : atI xs i = some v) : ∃ j, seqIndex? i xs.length = some j ∧ xs[j]? = some v ∧ j < xs.length ∧ -(xs.length : Int) ≤ i ∧ i < xs.length := by
  unfold atI at h
  cases e : ixN xs.length i with
  | none => rw [e] at h; cases h
  | some j =>
    rw [e] at h
    obtain ⟨h1, h2, h3, h4⟩ := ixN_seq e
    exact ⟨j, h1, h, h2, h3, h4⟩
theorem atI_nat {α : Type} {xs : List α} {j : Nat} {v : α} (h : xs[j]? = some v) : atI xs (j : Int) = some v := by
  have hj : j < xs.length := (List.getElem?_eq_some_iff.mp h).1
  have e : ixN xs.length (j : Int) = some j := by
    unfold ixN
    rw [if_pos (by omega), if_pos (by omega)]; simp
  unfold atI; rw [e]; exact h
theorem atI_last {α : Type} (xs : List α) (v : α) : atI (xs ++ [v]) (-1) = some v := by
  have hl : (xs ++ [v]).length = xs.length + 1 := by simp
  have e : ixN (xs ++ [v]).length (-1) = some xs.length := by
    unfold ixN
    rw [hl, if_neg (by decide), if_pos (by omega)]
    congr 1
    omega
  unfold atI
  rw [e]
  show (xs ++ [v])[xs.length]? = some v
  simp

/-! ### what may be subscripted -/
/-- what stands as an index of a plain subscript -/
def PlainIx (b : Expr) : Prop := ∀ o i, subscripted b false o i = operate [o, i] (getItem o i)
/-- a subscript by values -/
def IxR (X : Cx) (r : R2) : Prop :=
  ∀ (value slice : Expr) (pins : List (Addr × Obj)) (s : Shared) (σ : St) (H : Hp) (x y : V) (v u : Value) (Q : VK), Inv X pins σ H s → RelV x v → RelV y u → r x y H Q →
    subscripted slice false v u = operate [v, u] (getItem v u) → wpAny (model X.prog X.w) X.A (subscriptTail value slice v u) (EP X pins σ Q) X.xe s
/-- a call of a builtin's method by values: the receiver, the arguments -/
def MtR (X : Cx) (id : String) (r : V → List V → Hp → VK → Prop) : Prop :=
  ∀ (pins : List (Addr × Obj)) (s : Shared) (σ : St) (H : Hp) (x : V) (xs : List V) (v : Value) (us : List Value) (Q : VK), Inv X pins σ H s → RelV x v → Vals xs us → r x xs H Q →
    wpAny (model X.prog X.w) X.A (call (.builtin id) (v :: us)) (EP X pins σ Q) X.xe s
section
variable {X : Cx} {a b : Expr} {ta tb : TE} {pos : Pos}
theorem IxR.or {r r' : R2} (h : IxR X r) (h' : IxR X r') : IxR X (fun x y H Q => r x y H Q ∨ r' x y H Q) := by
  intro value slice pins s σ H x y v u Q I rx ry q hs
  rcases q with q | q
  · exact h value slice pins s σ H x y v u Q I rx ry q hs
  · exact h' value slice pins s σ H x y v u Q I rx ry q hs
theorem MtR.or {id : String} {r r' : V → List V → Hp → VK → Prop} (h : MtR X id r) (h' : MtR X id r') : MtR X id (fun x xs H Q => r x xs H Q ∨ r' x xs H Q) := by
  intro pins s σ H x xs v us Q I rx rs q
  rcases q with q | q
  · exact h pins s σ H x xs v us Q I rx rs q
  · exact h' pins s σ H x xs v us Q I rx rs q
/-- a[b] -/
theorem pe_ix {r : R2} (hr : IxR X r) (ha : PE X a ta) (hb : PE X b tb) (hs : PlainIx b) : PE X (.Subscript a b pos) (tOp r ta tb) := by
  intro pins s σ H Q I h
  exact Subscript_ (binT ha hb I h fun v u s2 x y H2 I2 rx ry q => hr a b pins s2 σ H2 x y v u Q I2 rx ry q (hs _ _))

def rIxL (K : PySem.W.Frag) : R2 := fun x y H Q => ∃ p xs i v, x = .ref p ∧ y = .int i ∧ SqL K H p xs ∧ atI xs i = some v ∧ Q v H
def rIxT (K : PySem.W.Frag) : R2 := fun x y H Q => ∃ p xs i v, x = .ref p ∧ y = .int i ∧ SqT K H p xs ∧ atI xs i = some v ∧ Q v H
def rIxS : R2 := fun x y H Q => ∃ z i c, x = .str z ∧ y = .int i ∧ z.length ≤ sizeLine ∧ atI z.cps.toList i = some c ∧ Q (.str ⟨#[c]⟩) H
theorem ix_list : IxR X (rIxL X.K) := by
  intro value slice pins s σ H x y v u Q I rx ry h hs
  obtain ⟨p, xs, i, z, rfl, rfl, hq, he, q⟩ := h
  cases rx
  obtain ⟨t, rfl⟩ := ry
  obtain ⟨its, r, pl, hz⟩ := I.list hq
  obtain ⟨j, h1, h2, h3, h4, h5⟩ := atI_get he
  obtain ⟨w, ew, rw'⟩ := r.get h2
  have hl := r.length
  have hn := line63
  have fin : EP X pins σ Q w s := ⟨z, H, I, rw', q⟩
  by_cases h0 : 0 ≤ i
  · have hj : i.toNat = j := by
      rw [seqIndex_of h0 h5] at h1
      exact Option.some.inj h1
    exact item_listR pl.isList h0 (by omega) (by rw [hj]; simpa using ew) fin hs
  · have hj : (i + (its.toArray.size : Int)).toNat = j := by
      rw [seqIndex_neg (by omega) h4] at h1
      rw [List.size_toArray, ← hl]
      exact Option.some.inj h1
    exact subscriptTail_builtinR (x := w) pl.isList.typeIs slot_list_getitem.lookup
      (wpAny_getItem_list_neg (Q := fun r s' => r = w ∧ EP X pins σ Q r s') pl.isList (by omega) (by rw [List.size_toArray] <;> omega) (by omega) (by rw [hj]; simpa using ew) ⟨rfl, fin⟩) hs
theorem ix_tup : IxR X (rIxT X.K) := by
  intro value slice pins s σ H x y v u Q I rx ry h hs
  obtain ⟨p, xs, i, z, rfl, rfl, hq, he, q⟩ := h
  cases rx
  obtain ⟨t, rfl⟩ := ry
  obtain ⟨its, r, pl, hz⟩ := I.tuple hq
  obtain ⟨j, h1, h2, h3, h4, h5⟩ := atI_get he
  obtain ⟨w, ew, rw'⟩ := r.get h2
  have hl := r.length
  have hn := line63
  have fin : EP X pins σ Q w s := ⟨z, H, I, rw', q⟩
  exact subscriptTail_builtinR (x := w) pl.typeIs slot_tuple_getitem.lookup
    (getItem_tuple (j := j) (Q := fun r s' => r = w ∧ EP X pins σ Q r s') pl (by omega) (by omega) (by rw [List.size_toArray, ← hl]; exact h1) (by simpa using ew) ⟨rfl, fin⟩) hs
theorem ix_str : IxR X rIxS := by
  intro value slice pins s σ H x y v u Q I rx ry h hs
  obtain ⟨z, i, c, rfl, rfl, hz, he, q⟩ := h
  obtain ⟨t, rfl⟩ := rx
  obtain ⟨t', rfl⟩ := ry
  obtain ⟨j, h1, h2, h3, h4, h5⟩ := atI_get he
  have hl : z.cps.toList.length = z.length := by simp [Str.length]
  rw [hl] at h1 h4 h5
  have hn := line63
  exact tail_any (typeIs_str s z t) slot_str_getitem.lookup (getItem_str (c := c) (by
    have e1 : decide (i < -(2 ^ 63 : Int)) = false := decide_eq_false (by omega)
    have e2 : decide (i ≥ 2 ^ 63) = false := decide_eq_false (by omega)
    rw [e1, e2, Bool.or_false]) (by rw [h1]; simpa using h2) ⟨.str ⟨#[c]⟩, H, I.tok _, ⟨_, rfl⟩, q⟩) hs
/-- list, tuple or str -/
def rIx (K : PySem.W.Frag) : R2 := fun x y H Q => rIxL K x y H Q ∨ rIxT K x y H Q ∨ rIxS x y H Q
theorem ix_seq : IxR X (rIx X.K) := ix_list.or (ix_tup.or ix_str)

/-! ### xs[i] = v, any sign -/
/-- the list's object behind a store -/
theorem mapSeq_set (its : List Value) (n j : Nat) (u : Value) : Obj.mapSeq (·.setIfInBounds j u) { cls := .type "list", data := .seq its.toArray n } = { cls := .type "list", data := .seq (its.set j u).toArray n } := by
  simp [Obj.mapSeq]
theorem Inv.lst {pins : List (Addr × Obj)} {σ : St} {H : Hp} {s : Shared} {p : Addr} {xs : List V} (I : Inv X pins σ H s) (h : H p = some (.lst xs)) :
    ∃ (its : List Value) (n : Nat), Vals xs its ∧ s.heap.get? p = some { cls := .type "list", data := .seq its.toArray n } ∧ xs.length ≤ sizeLine := by
  obtain ⟨z, its, n, r, e⟩ := I.hok p _ h
  exact ⟨its, n, r, e, z⟩
/-- the list at p is written by an update of its object -/
theorem Inv.lstUpd {pins : List (Addr × Obj)} {σ : St} {H : Hp} {s : Shared} {p : Addr} {xs ys : List V} {its its' : List Value} {n n' : Nat} {f : Obj → Obj} (I : Inv X pins σ H s) (h : H p = some (.lst xs))
    (ho : s.heap.get? p = some { cls := .type "list", data := .seq its.toArray n }) (hf : f { cls := .type "list", data := .seq its.toArray n } = { cls := .type "list", data := .seq its'.toArray n' }) (r : Vals ys its') (hz : ys.length ≤ sizeLine) (t : Nat) :
    Inv X pins σ (upd H p (.lst ys)) { s with heap := s.heap.update p f, toks := t } := by
  have e : (s.heap.update p f).get? p = some { cls := .type "list", data := .seq its'.toArray n' } := by
    rw [Heap.get?_update_self f ho (by rw [hf] <;> rfl), hf]
  refine I.write (x := p) (e := p) (by rw [h]; trivial) (.inl rfl) (fun b u hb q => (Heap.get?_update_other _ _ (Ne.symm hb)).trans q) ⟨_, e⟩ ?_
  exact ⟨hz, its', n', r, e⟩
def rSetL : V → V → V → Hp → (Hp → Prop) → Prop := fun o i v H Q => ∃ p xs k j, o = .ref p ∧ i = .int k ∧ H p = some (.lst xs) ∧ ixN xs.length k = some j ∧ Q (upd H p (.lst (xs.set j v)))
theorem set_list : PSet X rSetL := by
  intro pins s σ H o i v ov iv u Q I ro ri rv h
  obtain ⟨p, xs, k, j, rfl, rfl, hp, hj, q⟩ := h
  cases ro
  obtain ⟨t, rfl⟩ := ri
  obtain ⟨its, n, r, ho, hz⟩ := I.lst hp
  obtain ⟨h1, h2, h3, h4⟩ := ixN_seq hj
  have hl := r.length
  have hn := line63
  have I' : Inv X pins σ (upd H p (.lst (xs.set j v))) { s with heap := s.heap.update p (Obj.mapSeq (·.setIfInBounds j u)) } :=
    I.lstUpd hp ho (mapSeq_set its n j u) (r.set rv j) (by rw [List.length_set]; exact hz) s.toks
  by_cases h0 : 0 ≤ k
  · have hk : k.toNat = j := by
      rw [seqIndex_of h0 h4] at h1
      exact Option.some.inj h1
    exact PySem.W.ki_setAt ho h0 (by omega) (by rw [List.size_toArray, ← hl]; exact h4) (by rw [hk]; exact ⟨_, I', q⟩)
  · have hk : (k + (its.toArray.size : Int)).toNat = j := by
      rw [seqIndex_neg (by omega) h3] at h1
      rw [List.size_toArray, ← hl]
      exact Option.some.inj h1
    exact PySem.W.ki_setBack ho (by omega) (by rw [List.size_toArray, ← hl]; exact h3) (by omega) (by rw [hk]; exact ⟨_, I', q⟩)

/-! ### slices -/
theorem slice_bounds (lo hi : Option Int) (n : Nat) : (sliceBounds lo hi none n).1 = ((HT.sIx n 0 lo : Nat) : Int) ∧ (sliceBounds lo hi none n).2.1 = ((HT.sIx n n hi : Nat) : Int) ∧ (sliceBounds lo hi none n).2.2 = 1 := by
  refine ⟨?_, ?_, rfl⟩
  · cases lo with
    | none => simp [sliceBounds, HT.sIx]
    | some i =>
      simp only [sliceBounds, HT.sIx, Option.getD_none, show (1 : Int) > 0 by decide, if_true]
      by_cases h : i < 0
      · simp only [h, if_true] <;> omega
      · simp only [h, if_false] <;> omega
  · cases hi with
    | none => simp [sliceBounds, HT.sIx]
    | some i =>
      simp only [sliceBounds, HT.sIx, Option.getD_none, show (1 : Int) > 0 by decide, if_true]
      by_cases h : i < 0
      · simp only [h, if_true] <;> omega
      · simp only [h, if_false] <;> omega
theorem slicePick_cut (its : List Value) (lo hi : Option Int) : slicePick its.toArray lo hi none = ((its.drop (HT.sIx its.length 0 lo)).take (HT.sIx its.length its.length hi - HT.sIx its.length 0 lo)).toArray := by
  obtain ⟨h1, h2, h3⟩ := slice_bounds lo hi its.toArray.size
  unfold slicePick
  rw [h1, h2, h3]
  simp only [sliceRange_one, pick_run, List.size_toArray] <;> rfl
/-- xs[lo:hi] of a list: a new list -/
def rSlL (K : PySem.W.Frag) : V → Option Int → Option Int → Hp → VK → Prop := fun x lo hi H Q => ∃ a xs, x = .ref a ∧ SqL K H a xs ∧ ∀ p, H p = none → Q (.ref p) (upd H p (.lst (cutV xs lo hi)))
theorem sl_list : SlR X (rSlL X.K) := by
  intro pins s σ H x v vl vu lo hi sl Q I rx hs pl pu h
  obtain ⟨a, xs, rfl, hx, q⟩ := h
  cases rx
  obtain ⟨its, r, ht, hz⟩ := I.list hx
  have hlen := r.length
  refine ⟨"list", _, slot_list_getitem.lookup, ht.isList.typeIs, ?_⟩
  refine wpAny_getItem_list_slice ht.isList hs pl pu .none (by simp) ?_ (by rw [List.size_toArray] <;> omega)
  rw [slicePick_cut, ← hlen]
  refine ⟨.ref s.heap.objs.size, _, I.laid (t' := s.toks) (o := .lst (cutV xs lo hi)) (fun b ob q => Heap.get?_push_of_some _ q) (Nat.le_refl _) ?_, rfl, q _ (I.hok.fresh (Nat.le_refl _))⟩
  exact ⟨Nat.le_trans (cutV_length xs lo hi) hz, _, 0, (r.drop (HT.sIx xs.length 0 lo)).take (HT.sIx xs.length xs.length hi - HT.sIx xs.length 0 lo), Heap.get?_push_size _ rfl⟩

/-! ### in, not in: flat items -/
def flatV : V → Bool
  | .non => true
  | .bl _ => true
  | .int _ => true
  | .str _ => true
  | _ => false
/-- == of flat values -/
def eqV : V → V → Bool
  | .non, .non => true
  | .bl a, .bl b => a == b
  | .bl a, .int b => (if a then 1 else 0) == b
  | .int a, .bl b => a == (if b then 1 else 0)
  | .int a, .int b => a == b
  | .str a, .str b => a == b
  | _, _ => false
theorem eqAt_V {A : Around} {s : Shared} {y x : V} {u v : Value} (ry : RelV y u) (rx : RelV x v) (fy : flatV y = true) (fx : flatV x = true) : SeqAt.EqAt A s u v (eqV y x) := by
  cases y with
  | non =>
    cases ry
    cases x with
    | non => cases rx; exact SeqAt.EqAt.same _
    | bl b => cases rx; exact SeqAt.EqAt.none_bool b
    | int b => obtain ⟨t, rfl⟩ := rx; exact SeqAt.EqAt.none_int b t
    | str b => obtain ⟨t, rfl⟩ := rx; exact SeqAt.EqAt.none_str b t
    | _ => exact absurd (show false = true from fx) Bool.false_ne_true
  | bl a =>
    cases ry
    cases x with
    | non => cases rx; exact SeqAt.EqAt.bool_none a
    | bl b => cases rx; exact SeqAt.EqAt.bool_bool a b
    | int b => obtain ⟨t, rfl⟩ := rx; exact SeqAt.EqAt.bool_int a b t
    | str b => obtain ⟨t, rfl⟩ := rx; exact SeqAt.EqAt.bool_str a b t
    | _ => exact absurd (show false = true from fx) Bool.false_ne_true
  | int a =>
    obtain ⟨t', rfl⟩ := ry
    cases x with
    | non => cases rx; exact SeqAt.EqAt.int_none a t'
    | bl b => cases rx; exact SeqAt.EqAt.int_bool a t' b
    | int b => obtain ⟨t, rfl⟩ := rx; exact SeqAt.EqAt.int_int a t' b t
    | str b => obtain ⟨t, rfl⟩ := rx; exact SeqAt.EqAt.int_str a t' b t
    | _ => exact absurd (show false = true from fx) Bool.false_ne_true
  | str a =>
    obtain ⟨t', rfl⟩ := ry
    cases x with
    | non => cases rx; exact SeqAt.EqAt.str_none a t'
    | bl b => cases rx; exact SeqAt.EqAt.str_bool a t' b
    | int b => obtain ⟨t, rfl⟩ := rx; exact SeqAt.EqAt.str_int a t' b t
    | str b => obtain ⟨t, rfl⟩ := rx; exact SeqAt.EqAt.str_str a t' b t
    | _ => exact absurd (show false = true from fx) Bool.false_ne_true
  | _ => exact absurd (show false = true from fy) Bool.false_ne_true
/-- the items' answers, read off the values (a value's own answer does not lean on its token) -/
def eqU (x : V) (u : Value) : Bool := match u with
  | .none => eqV .non x
  | .bool b => eqV (.bl b) x
  | .int i _ => eqV (.int i) x
  | .str z _ => eqV (.str z) x
  | _ => false
theorem eqU_of {x y : V} {u : Value} (r : RelV y u) (f : flatV y = true) : eqU x u = eqV y x := by
  cases y with
  | non => cases r; rfl
  | bl b => cases r; rfl
  | int i => obtain ⟨t, rfl⟩ := r; rfl
  | str z => obtain ⟨t, rfl⟩ := r; rfl
  | _ => exact absurd (show false = true from f) Bool.false_ne_true
theorem any_eqU {x : V} : ∀ {xs : List V} {us : List Value}, Vals xs us → xs.all flatV = true → us.any (eqU x) = xs.any fun y => eqV y x
  | _, _, .nil, _ => rfl
  | y :: xs, u :: us, .cons r t, f => by
    rw [List.all_cons, Bool.and_eq_true] at f
    rw [List.any_cons, List.any_cons, eqU_of r f.1, any_eqU t f.2]
theorem mem_eqAt {A : Around} {s : Shared} {x : V} {v : Value} (rx : RelV x v) (fx : flatV x = true) : ∀ {xs : List V} {us : List Value}, Vals xs us → xs.all flatV = true → ∀ u ∈ us, SeqAt.EqAt A s u v (eqU x u)
  | _, _, .nil, _ => fun u hu => by cases hu
  | y :: xs, u :: us, .cons r t, f => fun u' hu => by
    rw [List.all_cons, Bool.and_eq_true] at f
    rcases List.mem_cons.mp hu with rfl | hu
    · rw [eqU_of r f.1]; exact eqAt_V r rx f.1 fx
    · exact mem_eqAt rx fx t f.2 u' hu
def inV (x : V) (xs : List V) : Bool := xs.any fun y => eqV y x
/-- x in a list or tuple of flat items -/
def rIn (K : PySem.W.Frag) (neg : Bool) : R2 := fun x y H Q => ∃ p xs, y = .ref p ∧ (SqL K H p xs ∨ SqT K H p xs) ∧ flatV x = true ∧ xs.all flatV = true ∧ Q (.bl (if neg then !inV x xs else inV x xs)) H
theorem op_in_seq : OpR X (compareOp .In) (rIn X.K false) := by
  intro pins s σ H x y v u Q I rx ry h
  obtain ⟨p, xs, rfl, hq, fx, fs, q⟩ := h
  cases ry
  rcases hq with hq | hq
  · obtain ⟨its, r, pl, hz⟩ := I.list hq
    refine SeqAt.in_listAt (eqU x) pl.isList (fun w hw => mem_eqAt rx fx r fs w (by simpa using hw)) ⟨.bl _, H, I, rfl, ?_⟩
    rw [show its.toArray.any (eqU x) = its.any (eqU x) by simp, any_eqU r fs]
    exact q
  · obtain ⟨its, r, pl, hz⟩ := I.tuple hq
    refine SeqAt.in_tupleAt (eqU x) pl (fun w hw => mem_eqAt rx fx r fs w (by simpa using hw)) ⟨.bl _, H, I, rfl, ?_⟩
    rw [show its.toArray.any (eqU x) = its.any (eqU x) by simp, any_eqU r fs]
    exact q
theorem op_notIn_seq : OpR X (compareOp .NotIn) (rIn X.K true) := by
  intro pins s σ H x y v u Q I rx ry h
  obtain ⟨p, xs, rfl, hq, fx, fs, q⟩ := h
  cases ry
  rcases hq with hq | hq
  · obtain ⟨its, r, pl, hz⟩ := I.list hq
    refine SeqAt.notIn_listAt (eqU x) pl.isList (fun w hw => mem_eqAt rx fx r fs w (by simpa using hw)) ⟨.bl _, H, I, rfl, ?_⟩
    rw [show its.toArray.any (eqU x) = its.any (eqU x) by simp, any_eqU r fs]
    exact q
  · obtain ⟨its, r, pl, hz⟩ := I.tuple hq
    refine SeqAt.notIn_tupleAt (eqU x) pl (fun w hw => mem_eqAt rx fx r fs w (by simpa using hw)) ⟨.bl _, H, I, rfl, ?_⟩
    rw [show its.toArray.any (eqU x) = its.any (eqU x) by simp, any_eqU r fs]
    exact q
theorem op_notIn_str : OpR X (compareOp .NotIn) (fun x y H Q => ∃ i j, x = .str i ∧ y = .str j ∧ Q (.bl (!(!(Builtin.Str.occurrences j i 0 j.length 1).isEmpty))) H) := by
  intro pins s σ H x y v u Q I rx ry h
  obtain ⟨i, j, rfl, rfl, q⟩ := h
  obtain ⟨t, rfl⟩ := rx
  obtain ⟨t', rfl⟩ := ry
  exact notIn_str ⟨.bl _, H, I, rfl, q⟩

/-! ### len, list(x), tuple(x) of any list or tuple that is read -/
theorem call_len_seq : CallR X (.builtin "len") (fun xs H Q => ∃ p ys, xs = [.ref p] ∧ (SqL X.K H p ys ∨ SqT X.K H p ys) ∧ Q (.int ys.length) H) := by
  intro pins s σ H xs us Q I r h
  obtain ⟨p, ys, rfl, hq, q⟩ := h
  obtain ⟨u, rfl, rx⟩ := vals1 r
  cases rx
  have hn := line63
  rcases hq with hq | hq
  · obtain ⟨its, r', pl, hz⟩ := I.list hq
    have hlen := r'.length
    exact Calls.call_len_list pl.isList (by simp only [List.size_toArray] <;> omega) ⟨.int ys.length, H, I.tok _, ⟨s.toks + 1, by rw [List.size_toArray, hlen]⟩, q⟩
  · obtain ⟨its, r', pl, hz⟩ := I.tuple hq
    have hlen := r'.length
    exact len_tuple pl (by simp only [List.size_toArray] <;> omega) ⟨.int ys.length, H, I.tok _, ⟨s.toks + 1, by rw [List.size_toArray, hlen]⟩, q⟩
theorem call_len_str : CallR X (.builtin "len") (fun xs H Q => ∃ z, xs = [.str z] ∧ z.length ≤ sizeLine ∧ Q (.int z.length) H) := by
  intro pins s σ H xs us Q I r h
  obtain ⟨z, rfl, hz, q⟩ := h
  obtain ⟨u, rfl, t, rfl⟩ := vals1 r
  have hn := line63
  exact len_str (by omega) ⟨.int z.length, H, I.tok _, ⟨_, rfl⟩, q⟩
theorem CallR.or {f : Value} {r r' : List V → Hp → VK → Prop} (h : CallR X f r) (h' : CallR X f r') : CallR X f (fun xs H Q => r xs H Q ∨ r' xs H Q) := by
  intro pins s σ H xs us Q I rs q
  rcases q with q | q
  · exact h pins s σ H xs us Q I rs q
  · exact h' pins s σ H xs us Q I rs q
theorem call_list_of : CallR X (.type "list") (fun xs H Q => ∃ p ys, xs = [.ref p] ∧ (SqL X.K H p ys ∨ SqT X.K H p ys) ∧ ∀ l, H l = none → Q (.ref l) (upd H l (.lst ys))) := by
  intro pins s σ H xs us Q I r h
  obtain ⟨p, ys, rfl, hq, q⟩ := h
  obtain ⟨u, rfl, rx⟩ := vals1 r
  cases rx
  have fin : ∀ (its : List Value), Vals ys its → ys.length ≤ sizeLine → ∀ (h' : Heap) (c' : Nat), (∀ b o', s.heap.get? b = some o' → h'.get? b = some o') →
      h'.get? s.heap.objs.size = some { cls := .type "list", dict := none, data := .seq its.toArray c', slots := #[] } → EP X pins σ Q (.ref s.heap.objs.size) { s with heap := h' } := fun its r' hz h' c' kp e =>
    ⟨.ref s.heap.objs.size, _, I.laid (t' := s.toks) kp (Nat.le_refl _) (show ObjOk X.prog X.w _ h' _ (.lst ys) from ⟨hz, its, c', r', e⟩), rfl, q _ (I.hok.fresh (Nat.le_refl _))⟩
  rcases hq with hq | hq
  · obtain ⟨its, r', pl, hz⟩ := I.list hq
    have hlen := r'.length
    obtain ⟨o, ho, hc, n, hd⟩ := pl.isList
    exact call_list_seq p (.inl rfl) ho hc hd (fun h' c' kp e => fin its r' hz h' c' kp e) (by simp only [List.size_toArray] <;> omega)
  · obtain ⟨its, r', pl, hz⟩ := I.tuple hq
    have hlen := r'.length
    obtain ⟨o, ho, hc, n, hd⟩ := pl
    exact call_list_seq p (.inr rfl) ho hc hd (fun h' c' kp e => fin its r' hz h' c' kp e) (by simp only [List.size_toArray] <;> omega)
theorem call_tuple_of : CallR X (.type "tuple") (fun xs H Q => ∃ p ys, xs = [.ref p] ∧ ((SqL X.K H p ys ∧ ∀ l, H l = none → Q (.ref l) (upd H l (.tup ys))) ∨ (SqT X.K H p ys ∧ Q (.ref p) H))) := by
  intro pins s σ H xs us Q I r h
  obtain ⟨p, ys, rfl, h⟩ := h
  obtain ⟨u, rfl, rx⟩ := vals1 r
  cases rx
  rcases h with ⟨hq, q⟩ | ⟨hq, q⟩
  · obtain ⟨its, r', pl, hz⟩ := I.list hq
    have hlen := r'.length
    refine call_tuple_list pl.isList (fun h' kp => ?_) (by simp only [List.size_toArray] <;> omega)
    have I1 : Inv X pins σ H { s with heap := h' } := I.kept (t' := s.toks) kp
    have I2 : Inv X pins σ (upd H h'.objs.size (.tup ys)) { s with heap := h'.push { cls := .type "tuple", data := .seq its.toArray } } :=
      I1.laid (t' := s.toks) (fun b o e => Heap.get?_push_of_some _ e) (Nat.le_refl _) (show ObjOk X.prog X.w _ _ _ (.tup ys) from ⟨hz, its, r', IsTup.new _ _⟩)
    exact ⟨.ref h'.objs.size, _, I2, rfl, q _ (I1.hok.fresh (Nat.le_refl _))⟩
  · obtain ⟨its, r', pl, hz⟩ := I.tuple hq
    exact call_tuple_same pl ⟨.ref p, H, I, rfl, q⟩

/-! ### the call of a builtin's method: o.m(..) -/
/-- the value is of that builtin type -/
def tyV (K : PySem.W.Frag) (T : String) (x : V) (H : Hp) : Prop := match x with
  | .str _ => T = "str"
  | .int _ => T = "int"
  | .ref p => (T = "list" ∧ ∃ xs, SqL K H p xs) ∨ (T = "tuple" ∧ ∃ o, K.lookup p = some o ∧ o.cls = .type "tuple" ∧ o.dict = none) ∨
      (T = "dict" ∧ ((∃ kvs, H p = some (.dK kvs)) ∨ ∃ kvs, H p = some (.dT kvs))) ∨ (T = "set" ∧ ∃ S n, H p = some (.set S n))
  | _ => False
theorem tyV_is {pins : List (Addr × Obj)} {σ : St} {H : Hp} {s : Shared} {T : String} {x : V} {v : Value} (I : Inv X pins σ H s) (r : RelV x v) (ty : tyV X.K T x H) :
    s.TypeIs v T ∧ ∀ a, v = .ref a → ∃ ob, s.heap.get? a = some ob ∧ ob.dict = none := by
  cases x with
  | str z =>
    obtain ⟨t, rfl⟩ := r
    cases (show T = "str" from ty)
    exact ⟨typeIs_str s z t, fun _ e => nomatch e⟩
  | int i =>
    obtain ⟨t, rfl⟩ := r
    cases (show T = "int" from ty)
    exact ⟨typeIs_int s i t, fun _ e => nomatch e⟩
  | ref p =>
    cases r
    rcases ty with ⟨rfl, xs, hq⟩ | ⟨rfl, o, hk, hc, hd⟩ | ⟨rfl, hk⟩ | ⟨rfl, S, n, hk⟩
    · obtain ⟨its, _, pl, _⟩ := I.list hq
      refine ⟨pl.isList.typeIs, fun a e => ?_⟩
      cases e
      obtain ⟨o, n, e, c, hd, _⟩ := pl
      exact ⟨o, e, hd⟩
    · refine ⟨⟨o, I.kIn p o hk, hc⟩, fun a e => ?_⟩
      cases e
      exact ⟨o, I.kIn _ o hk, hd⟩
    · have z : ∃ o, s.heap.get? p = some o ∧ o.ExactDict := by
        rcases hk with ⟨kvs, hk⟩ | ⟨kvs, hk⟩
        · obtain ⟨_, _, _, _, o, _, _, e, ex, _⟩ := I.hok p _ hk
          exact ⟨o, e, ex⟩
        · obtain ⟨_, _, _, _, o, _, _, e, ex, _⟩ := I.hok p _ hk
          exact ⟨o, e, ex⟩
      obtain ⟨o, e, ex⟩ := z
      refine ⟨⟨o, e, ex.1⟩, fun a e2 => ?_⟩
      cases e2
      exact ⟨o, e, ex.2.1⟩
    · obtain ⟨o, _, _, _, e, ex, _⟩ := I.hok p _ hk
      refine ⟨⟨o, e, ex.1⟩, fun a e2 => ?_⟩
      cases e2
      exact ⟨o, e, ex.2.1⟩
  | _ => exact False.elim ty
def tBM0 (K : PySem.W.Frag) (T : String) (r : V → List V → Hp → VK → Prop) (to : TE) : TE := fun σ H Q => to σ H fun x H1 => tyV K T x H1 ∧ r x [] H1 Q
def tBM (K : PySem.W.Frag) (T : String) (r : V → List V → Hp → VK → Prop) (to : TE) (t : TA) : TE := fun σ H Q => to σ H fun x H1 => tyV K T x H1 ∧ t σ H1 fun xs H2 => r x xs H2 Q
variable {o e : Expr} {es : List Expr} {to : TE} {t : TA} {name : Str} {apos cpos : Pos} {T id : String} {r : V → List V → Hp → VK → Prop}
theorem pe_bm0 (pa : PlainAttrs T) (slot : Slot T name id) (hty : typeOf (.builtin id) = pure (.type "method_descriptor")) (hm : MtR X id r) (ho : PE X o to)
    (hbase : attributeBase o name X.env (eval o X.env) = eval o X.env := by rfl) (hline : (apos.endLine == cpos.line) = true := by rfl) : PE X (.Call (.Attribute o name apos) [] [] cpos) (tBM0 X.K T r to) := by
  intro pins s σ H Q I h
  refine wpAny_Call_method0_late hbase hline (thn (ho pins s σ H _ I h) fun v s1 ⟨x, H1, I1, r1, ty, q1⟩ => ?_)
  obtain ⟨h1, h2⟩ := tyV_is I1 r1 ty
  exact ⟨T, id, pa, slot, hty, h1, h2, Calls.callWith_builtin rfl (PySem.evalArgs_none (hm pins s1 σ H1 x [] v [] Q I1 r1 .nil q1))⟩
theorem pe_bm (pa : PlainAttrs T) (slot : Slot T name id) (hty : typeOf (.builtin id) = pure (.type "method_descriptor")) (hm : MtR X id r) (ho : PE X o to) (ha : PA X (e :: es) t)
    (hbase : attributeBase o name X.env (eval o X.env) = eval o X.env := by rfl)
    (hfew : ((backTo cpos (starEach (e :: es) X.env)).all (fun x => !x.1) && (backToKw cpos (keywordEach [] X.env)).all (fun x => x.1.isSome)
      && decide ((e :: es).length + ([] : List Keyword).length + (if ([] : List Keyword).isEmpty then 0 else 1) < 30)) = true := by rfl)
    (hline : (apos.endLine == cpos.line) = true := by rfl) (hs : starEach (e :: es) X.env = (false, eval e X.env) :: starEach es X.env := by rfl) (hplain : (backTo cpos (starEach es X.env)).any (·.1) = false := by rfl) :
    PE X (.Call (.Attribute o name apos) (e :: es) [] cpos) (tBM X.K T r to t) := by
  intro pins s σ H Q I h
  refine wpAny_Call_method_late hbase hfew hline rfl (thn (ho pins s σ H _ I h) fun v s1 ⟨x, H1, I1, r1, ty, q1⟩ => ?_)
  obtain ⟨h1, h2⟩ := tyV_is I1 r1 ty
  refine ⟨T, id, pa, slot, hty, h1, h2, ?_⟩
  have hA := ha cpos pins s1 σ H1 _ I1 q1
  rw [hs] at hA ⊢
  refine Calls.callWith_builtin (by show (false || (backTo cpos (starEach es X.env)).any (·.1)) = false; rw [hplain] <;> rfl) (Calls.evalArgs_plain ?_)
  exact thn hA fun us s2 ⟨vs, H2, I2, r2, q2⟩ => hm pins s2 σ H2 x vs v us Q I2 r1 r2 q2
/- xs.append(e), list.index on a module's tuple .. are MtR facts of 06m -/
end
end L2

namespace L2
open PySem PySem.Spec PyProof.Rows

def MtM (X : Cx) (id : String) (r : V → List V → Hp → VK → Prop) : Prop :=
  ∀ (pins : List (Addr × Obj)) (s : Shared) (σ : St) (H : Hp) (x : V) (xs : List V) (v : Value) (us : List Value) (Q : VK), Inv X pins σ H s → RelV x v → Vals xs us → r x xs H Q →
    wpAny (model X.prog X.w) X.A (call (.builtin id) (v :: us)) (EP X pins σ Q) X.xe s

/-! ### lists of values -/
theorem Vals.one : ∀ {x : V} {us : List Value}, Vals [x] us → ∃ u, us = [u] ∧ RelV x u
  | _, _, .cons r .nil => ⟨_, rfl, r⟩
theorem Vals.two : ∀ {x y : V} {us : List Value}, Vals [x, y] us → ∃ u v, us = [u, v] ∧ RelV x u ∧ RelV y v
  | _, _, _, .cons r (.cons q .nil) => ⟨_, _, rfl, r, q⟩
theorem Vals.zero : ∀ {us : List Value}, Vals [] us → us = []
  | _, .nil => rfl
theorem Vals.dropLast {xs : List V} {us : List Value} (h : Vals xs us) : Vals xs.dropLast us.dropLast := by
  induction h with
  | nil => exact .nil
  | cons r t ih =>
    cases t with
    | nil => exact .nil
    | cons q t' => exact .cons r ih
theorem Vals.eraseIdx : ∀ {xs : List V} {us : List Value} (i : Nat), Vals xs us → Vals (xs.eraseIdx i) (us.eraseIdx i)
  | _, _, _, .nil => .nil
  | _, _, 0, .cons _ t => t
  | _, _, i + 1, .cons r t => .cons r (Vals.eraseIdx i t)
theorem Vals.reverse {xs : List V} {us : List Value} (h : Vals xs us) : Vals xs.reverse us.reverse := by
  induction h with
  | nil => exact .nil
  | cons r t ih => rw [List.reverse_cons, List.reverse_cons]; exact Vals.append ih (.cons r .nil)
theorem Vals.rep {xs : List V} {us : List Value} (h : Vals xs us) : ∀ k : Nat, Vals (List.replicate k xs).flatten (List.replicate k us).flatten
  | 0 => .nil
  | k + 1 => by
    rw [List.replicate_succ, List.replicate_succ, List.flatten_cons, List.flatten_cons]
    exact Vals.append h (Vals.rep h k)
theorem erase_last {α : Type} (l : List α) : l.eraseIdx (l.length - 1) = l.dropLast := by
  induction l with
  | nil => rfl
  | cons a r ih =>
    cases r with
    | nil => rfl
    | cons b r =>
      have e : (a :: b :: r).length - 1 = ((b :: r).length - 1) + 1 := by
        have h1 : (a :: b :: r).length = r.length + 2 := rfl
        have h2 : (b :: r).length = r.length + 1 := rfl
        omega
      rw [e, List.eraseIdx_cons_succ, ih]
      all_goals rfl
theorem len_erase {α : Type} : ∀ (l : List α) (i : Nat), (l.eraseIdx i).length ≤ l.length
  | [], _ => Nat.le_refl _
  | _ :: _, 0 => Nat.le_succ _
  | _ :: r, i + 1 => Nat.succ_le_succ (len_erase r i)
theorem foldl_rep (its : List Value) : ∀ (k : Nat) (acc : List Value),
    List.foldl (fun x1 x2 => x1 ++ x2) acc.toArray (List.replicate k its.toArray) = (acc ++ (List.replicate k its).flatten).toArray
  | 0, acc => by simp
  | k + 1, acc => by
    have e : acc.toArray ++ its.toArray = (acc ++ its).toArray := by simp
    have e2 : (acc ++ its) ++ (List.replicate k its).flatten = acc ++ (List.replicate (k + 1) its).flatten := by
      rw [List.replicate_succ, List.flatten_cons, List.append_assoc]
    rw [← e2, ← foldl_rep its k (acc ++ its), ← e, List.replicate_succ, List.foldl_cons]

section
variable {X : Cx} {pins : List (Addr × Obj)} {σ : St} {H : Hp} {s : Shared} {l b : Addr} {xs ys zs : List V}

/-! ### the two steps: a tracked list is rewritten, a new list is laid -/
theorem Inv.lset {its its' : List Value} {n : Nat} {f : Array Value → Array Value} {t' : Nat} (I : Inv X pins σ H s) (hH : H l = some (.lst xs))
    (e : s.heap.get? l = some { cls := .type "list", data := .seq its.toArray n }) (hf : f its.toArray = its'.toArray) (hv : Vals ys its') (hz : ys.length ≤ sizeLine) :
    Inv X pins σ (upd H l (.lst ys)) { s with heap := s.heap.update l (Obj.mapSeq f), toks := t' } := by
  have q := PySem.IsL.update e f
  rw [hf] at q
  refine I.write (x := l) (e := l) (by rw [hH]; exact trivial) (.inl rfl) (fun b' u hb hu => (Heap.get?_update_other s.heap (Obj.mapSeq f) (Ne.symm hb)).trans hu) ⟨_, q⟩ ?_
  exact ⟨hz, its', _, hv, q⟩
theorem Inv.lnew {its : List Value} {t' : Nat} (I : Inv X pins σ H s) (hv : Vals ys its) (hz : ys.length ≤ sizeLine) :
    Inv X pins σ (upd H s.heap.objs.size (.lst ys)) { s with heap := s.heap.push { cls := .type "list", data := .seq its.toArray }, toks := t' } :=
  I.laid (fun _ _ q => Heap.get?_push_of_some _ q) (Nat.le_refl _) ⟨hz, its, 0, hv, Heap.get?_push_size _ rfl⟩
theorem Inv.fresh (I : Inv X pins σ H s) : H s.heap.objs.size = none := I.hok.fresh (Nat.le_refl _)
theorem Inv.lstM (I : Inv X pins σ H s) (hH : H l = some (.lst xs)) : xs.length ≤ sizeLine ∧ ∃ (its : List Value) (n : Nat), Vals xs its ∧ xs.length = its.length ∧ s.heap.get? l = some { cls := .type "list", data := .seq its.toArray n } := by
  obtain ⟨z, its, n, r, e⟩ := I.hok l _ hH
  exact ⟨z, its, n, r, r.length, e⟩

theorem notLongL {n : Nat} (h : n ≤ sizeLine) : Builtin.List.listTooLong n = false := by
  unfold Builtin.List.listTooLong
  exact decide_eq_false (by omega)
end

section
variable {X : Cx}

/-! ### methods -/
def rAppend : V → List V → Hp → VK → Prop := fun x vs H Q => ∃ l xs y, x = .ref l ∧ vs = [y] ∧ H l = some (.lst xs) ∧ xs.length < sizeLine ∧ Q .non (upd H l (.lst (xs ++ [y])))
theorem mt_append : MtM X "list.append" rAppend := by
  intro pins s σ H x vs v us Q I rx rv h
  obtain ⟨l, xs, y, rfl, rfl, hH, hz, q⟩ := h
  cases rx
  obtain ⟨u, rfl, ru⟩ := rv.one
  obtain ⟨z, its, n, r, hl, e⟩ := I.lstM hH
  refine call_meets F.slot_list_append ⟨_, e, rfl⟩ F.entry_list_append (F.args_list_append_2 _ _) (PySem.list_append l its.toArray n u (by rw [List.size_toArray]; omega)) ⟨e, ?_⟩
  refine ⟨.non, _, I.lset (its' := its ++ [u]) hH e (by simp) (r.append (.cons ru .nil)) ?_, rfl, q⟩
  rw [List.length_append, List.length_singleton]
  omega

def rExtend : V → List V → Hp → VK → Prop := fun x vs H Q => ∃ l b xs zs, x = .ref l ∧ vs = [.ref b] ∧ H l = some (.lst xs) ∧ H b = some (.lst zs) ∧ xs.length + zs.length ≤ sizeLine ∧ Q .non (upd H l (.lst (xs ++ zs)))
theorem mt_extend : MtM X "list.extend" rExtend := by
  intro pins s σ H x vs v us Q I rx rv h
  obtain ⟨l, b, xs, zs, rfl, rfl, hH, hB, hz, q⟩ := h
  cases rx
  obtain ⟨u, rfl, ru⟩ := rv.one
  cases ru
  obtain ⟨z, its, n, r, hl, e⟩ := I.lstM hH
  obtain ⟨z2, its2, n2, r2, hl2, e2⟩ := I.lstM hB
  have hsz : its.toArray.size + its2.toArray.size ≤ sizeLine := by rw [List.size_toArray, List.size_toArray]; omega
  have hlong : ¬ (!its.toArray.isEmpty && Builtin.List.listTooLong (its.toArray.size + its2.toArray.size)) = true := by
    rw [notLongL hsz, Bool.and_false]
    exact Bool.false_ne_true
  refine call_meets F.slot_list_extend ⟨_, e, rfl⟩ F.entry_list_extend (F.args_list_extend_2 _ _)
    (AutoSeq1.list_extend_list_list_0 l its.toArray n b its2.toArray n2 hlong (by rw [List.size_toArray]; omega) (by omega)) ⟨e, e2, ?_⟩
  refine ⟨.non, _, I.lset (its' := its ++ its2) hH e (by simp) (r.append r2) ?_, rfl, q⟩
  rw [List.length_append]
  omega

def rPop : V → List V → Hp → VK → Prop := fun x vs H Q => ∃ l xs y, x = .ref l ∧ vs = [] ∧ H l = some (.lst xs) ∧ xs[xs.length - 1]? = some y ∧ Q y (upd H l (.lst xs.dropLast))
theorem mt_pop : MtM X "list.pop" rPop := by
  intro pins s σ H x vs v us Q I rx rv h
  obtain ⟨l, xs, y, rfl, rfl, hH, hy, q⟩ := h
  cases rx
  have hus := rv.zero
  subst hus
  obtain ⟨z, its, n, r, hl, e⟩ := I.lstM hH
  obtain ⟨u, hu, ru⟩ := r.get hy
  have hy' : its.toArray[its.toArray.size - 1]? = some u := by
    show its.toArray[its.length - 1]? = some u
    rw [← Array.getElem?_toList, ← hl]
    exact hu
  refine call_meets F.slot_list_pop ⟨_, e, rfl⟩ F.entry_list_pop (F.args_list_pop_1 _) (MeetsSeq.list_pop_last l its.toArray n u hy' (by rw [List.size_toArray]; omega)) ⟨e, ?_⟩
  refine ⟨y, _, I.lset (its' := its.dropLast) hH e ?_ r.dropLast ?_, ru, q⟩
  · show its.toArray.eraseIdxIfInBounds (its.toArray.size - 1) = its.dropLast.toArray
    rw [List.size_toArray, List.eraseIdxIfInBounds_toArray, erase_last]
  · rw [List.length_dropLast]
    omega

def rPopAt : V → List V → Hp → VK → Prop := fun x vs H Q => ∃ l xs i k y, x = .ref l ∧ vs = [.int i] ∧ H l = some (.lst xs) ∧ -(2 ^ 63) ≤ i ∧ i < 2 ^ 63 ∧ seqIndex? i xs.length = some k ∧ xs[k]? = some y ∧ Q y (upd H l (.lst (xs.eraseIdx k)))
theorem mt_popAt : MtM X "list.pop" rPopAt := by
  intro pins s σ H x vs v us Q I rx rv h
  obtain ⟨l, xs, i, k, y, rfl, rfl, hH, h1, h2, hk, hy, q⟩ := h
  cases rx
  obtain ⟨u, rfl, ru⟩ := rv.one
  obtain ⟨t, rfl⟩ := ru
  obtain ⟨z, its, n, r, hl, e⟩ := I.lstM hH
  obtain ⟨w, hw, rw'⟩ := r.get hy
  refine call_meets F.slot_list_pop ⟨_, e, rfl⟩ F.entry_list_pop (F.args_list_pop_2 _ _)
    (MeetsSeq.list_pop_at l its.toArray n i t k w (fitsIndex_both h1 h2) (by rw [List.size_toArray, ← hl]; exact hk) (by rw [← Array.getElem?_toList]; exact hw) (by rw [List.size_toArray]; omega)) ⟨e, ?_⟩
  refine ⟨y, _, I.lset (its' := its.eraseIdx k) hH e ?_ (r.eraseIdx k) ?_, rw', q⟩
  · show its.toArray.eraseIdxIfInBounds k = (its.eraseIdx k).toArray
    rw [List.eraseIdxIfInBounds_toArray]
  · have := len_erase xs k
    omega

def rReverse : V → List V → Hp → VK → Prop := fun x vs H Q => ∃ l xs, x = .ref l ∧ vs = [] ∧ H l = some (.lst xs) ∧ Q .non (upd H l (.lst xs.reverse))
theorem mt_reverse : MtM X "list.reverse" rReverse := by
  intro pins s σ H x vs v us Q I rx rv h
  obtain ⟨l, xs, rfl, rfl, hH, q⟩ := h
  cases rx
  have hus := rv.zero
  subst hus
  obtain ⟨z, its, n, r, hl, e⟩ := I.lstM hH
  refine call_meets F.slot_list_reverse ⟨_, e, rfl⟩ F.entry_list_reverse (F.args_list_reverse_1 _) (AutoSeq1.list_reverse_list_0 l its.toArray n (by rw [List.size_toArray]; omega)) ⟨e, ?_⟩
  refine ⟨.non, _, I.lset (its' := its.reverse) hH e (by simp) r.reverse ?_, rfl, q⟩
  rw [List.length_reverse]
  omega

def rClear : V → List V → Hp → VK → Prop := fun x vs H Q => ∃ l xs, x = .ref l ∧ vs = [] ∧ H l = some (.lst xs) ∧ Q .non (upd H l (.lst []))
theorem mt_clear : MtM X "list.clear" rClear := by
  intro pins s σ H x vs v us Q I rx rv h
  obtain ⟨l, xs, rfl, rfl, hH, q⟩ := h
  cases rx
  have hus := rv.zero
  subst hus
  obtain ⟨z, its, n, r, hl, e⟩ := I.lstM hH
  refine call_meets F.slot_list_clear ⟨_, e, rfl⟩ F.entry_list_clear (F.args_list_clear_1 _) (AutoSeq1.list_clear_list_0 l its.toArray n (by rw [List.size_toArray]; omega)) ⟨e, ?_⟩
  exact ⟨.non, _, I.lset (its' := []) (ys := []) hH e rfl .nil (Nat.zero_le _), rfl, q⟩

/-! ### list + list, list += list, list * int -/
def rCat : R2 := fun x y H Q => ∃ l b xs zs, x = .ref l ∧ y = .ref b ∧ H l = some (.lst xs) ∧ H b = some (.lst zs) ∧ xs.length + zs.length ≤ sizeLine ∧ ∀ p, H p = none → Q (.ref p) (upd H p (.lst (xs ++ zs)))
theorem op_cat : OpR X (binaryOp .Add) rCat := by
  intro pins s σ H x y v u Q I rx ry h
  obtain ⟨l, b, xs, zs, rfl, rfl, hH, hB, hz, q⟩ := h
  cases rx
  cases ry
  obtain ⟨z, its, n, r, hl, e⟩ := I.lstM hH
  obtain ⟨z2, its2, n2, r2, hl2, e2⟩ := I.lstM hB
  refine PySem.P.add_list e e2 ?_ (by rw [List.size_toArray, List.size_toArray]; omega)
  have ea : its.toArray ++ its2.toArray = (its ++ its2).toArray := by simp
  rw [ea]
  exact ⟨.ref _, _, I.lnew (t' := s.toks) (r.append r2) (by rw [List.length_append]; omega), rfl, q _ I.fresh⟩
/-- a list times an int (a negative one is nothing) -/
def rRep : R2 := fun x y H Q => ∃ l k xs, x = .ref l ∧ y = .int k ∧ H l = some (.lst xs) ∧ -(2 ^ 63) ≤ k ∧ k < 2 ^ 63 ∧ xs.length * k.toNat ≤ sizeLine ∧
  ∀ p, H p = none → Q (.ref p) (upd H p (.lst (List.replicate k.toNat xs).flatten))
theorem len_rep {α : Type} (xs : List α) (k : Nat) : (List.replicate k xs).flatten.length = k * xs.length := by
  induction k with
  | zero => simp
  | succ k ih => rw [List.replicate_succ, List.flatten_cons, List.length_append, ih, Nat.succ_mul, Nat.add_comm]
theorem op_rep : OpR X (binaryOp .Mult) rRep := by
  intro pins s σ H x y v u Q I rx ry h
  obtain ⟨l, k, xs, rfl, rfl, hH, h1, h2, hz, q⟩ := h
  cases rx
  obtain ⟨t, rfl⟩ := ry
  obtain ⟨z, its, n, r, hl, e⟩ := I.lstM hH
  have hlen : its.toArray.size * k.toNat ≤ sizeLine := by rw [List.size_toArray, ← hl]; exact hz
  have hcap : ¬ its.toArray.size * k.toNat > (2 ^ 63 - 1) / 8 := by
    have : (sizeLine : Nat) ≤ (2 ^ 63 - 1) / 8 := by decide
    omega
  have hfit : ¬ (!Builtin.List.listFitsIndex k) = true := by
    rw [fitsIndex_both h1 h2]
    exact Bool.false_ne_true
  have hlong : ¬ Builtin.List.listTooLong (its.toArray.size * k.toNat) = true := by
    rw [notLongL hlen]
    exact Bool.false_ne_true
  have hnew : List.foldl (fun x1 x2 => x1 ++ x2) #[] (List.replicate (if its.toArray.isEmpty = true then 0 else k.toNat) its.toArray) = (List.replicate k.toNat its).flatten.toArray := by
    have f0 : ∀ m : Nat, List.foldl (fun x1 x2 => x1 ++ x2) #[] (List.replicate m its.toArray) = (List.replicate m its).flatten.toArray := fun m => by
      have := foldl_rep its m []
      rw [List.nil_append] at this
      exact this
    rw [f0]
    cases its with
    | nil => simp
    | cons a r' => rw [if_neg (by simp)]
  refine wpAny_binaryOp_repeat_ref (T := "list") (U := "int") (by decide) ⟨_, e, rfl⟩ (fun s' => typeIs_int s' k t) noFill_list_mul F.fills_int_mul F.slot_int_rmul repeat_list F.slot_int_index.lookup
    (call_meets F.slot_int_rmul (typeIs_int s k t) F.entry_int_rmul (F.args_int_rmul_2 _ _) (int___rmul___int_list k t l its.toArray n)
      ⟨e, rfl, ⟨_, e, rfl⟩, call_meets F.slot_list_mul ⟨_, e, rfl⟩ F.entry_list_mul (F.args_list_mul_2 _ _) (AutoListH.list___mul___list_int_3 l its.toArray n k t hfit hcap hlong) ⟨e, ?_⟩⟩)
  rw [hnew]
  exact ⟨.ref _, _, I.lnew (t' := s.toks) (r.rep k.toNat) (by rw [len_rep, Nat.mul_comm]; exact hz), rfl, q _ I.fresh⟩

/-! ### del xs[i] -/
theorem del_list {pins : List (Addr × Obj)} {s : Shared} {σ : St} {H : Hp} {l : Addr} {xs : List V} {i : Int} {t : Tok} {k : Nat} {Q : Unit → Shared → Prop} (I : Inv X pins σ H s) (hH : H l = some (.lst xs))
    (h1 : -(2 ^ 63) ≤ i) (h2 : i < 2 ^ 63) (hk : seqIndex? i xs.length = some k) (h : ∀ s', Inv X pins σ (upd H l (.lst (xs.eraseIdx k))) s' → Q () s') :
    wpAny (model X.prog X.w) X.A (delItem (.ref l) (.int i t)) Q X.xe s := by
  obtain ⟨z, its, n, r, hl, e⟩ := I.lstM hH
  refine PySem.P.delItem_list (k := k) e (fitsIndex_both h1 h2) (by rw [List.size_toArray, ← hl]; exact hk) (h _ ?_) (by rw [List.size_toArray]; omega)
  refine I.lset (its' := its.eraseIdx k) (t' := s.toks) hH e ?_ (r.eraseIdx k) ?_
  · show its.toArray.eraseIdxIfInBounds k = (its.eraseIdx k).toArray
    rw [List.eraseIdxIfInBounds_toArray]
  · have := len_erase xs k
    omega
end

/-! ### xs[a:b] = ys -/
section
variable {prog : Program} {w : World} {A : Around} {E : Value → Shared → Prop} {s : Shared}
theorem splice_eq (its its2 : List Value) (a c : Nat) : its.toArray.extract 0 a ++ its2.toArray ++ its.toArray.extract c its.toArray.size = (its.take a ++ its2 ++ its.drop c).toArray := by
  apply Array.toList_inj.mp
  first
    | (simp
       exact List.take_of_length_le (by simp))
    | simp [List.take_of_length_le]
    | simp
theorem bounds_run {a c n : Nat} (hac : a ≤ c) (hc : c ≤ n) : sliceBounds (some (a : Int)) (some (c : Int)) none n = ((a : Int), (c : Int), 1) := by
  simp only [sliceBounds, Option.getD_none]
  have h1 : ¬ ((a : Int) < 0) := by omega
  have h2 : ¬ ((c : Int) < 0) := by omega
  simp only [h1, h2, if_false, show (1 : Int) > 0 by decide, if_true]
  congr 1
  · omega
  · congr 1; omega
set_option maxRecDepth 100000 in
/-- list.__setitem__ with a slice of step one and another list -/
theorem setItem_slice {l b sl : Addr} {items new : Array Value} {n n2 : Nat} {vl vu : Value} {a c : Nat} {Q : Unit → Shared → Prop}
    (e : s.heap.get? l = some { cls := .type "list", data := .seq items n }) (e2 : s.heap.get? b = some { cls := .type "list", data := .seq new n2 }) (hne : l ≠ b)
    (hs : s.heap.IsSliceOf sl vl vu .none) (pl : IsPart vl (some (a : Int))) (pu : IsPart vu (some (c : Int))) (hac : a ≤ c) (hc : c ≤ items.size)
    (hsz : items.size + new.size ≤ sizeLine) (h : Q () { s with heap := s.heap.update l (Obj.mapSeq fun xs => xs.extract 0 a ++ new ++ xs.extract c xs.size) }) :
    wpAny (model prog w) A (setItem (.ref l) (.ref sl) (.ref b)) Q E s := by
  have hl : s.heap.IsList l items := PySem.IsL.isList e
  have hb : s.heap.IsList b new := PySem.IsL.isList e2
  obtain ⟨os, hos, hcs, hds⟩ := id hs
  have hTs : s.TypeIs (.ref sl) "slice" := ⟨os, hos, hcs⟩
  have hstep : ¬ ((rawPart none == rawInt 0) = true) := Bool.false_ne_true
  have hsame : Builtin.List.listSameRef (.ref l) (.ref b) = false := by
    unfold Builtin.List.listSameRef
    exact beq_eq_false_iff_ne.mpr hne
  have hmax : (max (a : Int) (c : Int)).toNat = c := by omega
  have hz' : ((fun xs : Array Value => xs.extract 0 a ++ new ++ xs.extract c xs.size) items).size ≤ sizeLine + 1 := by
    simp only [Array.size_append, Array.size_extract]
    omega
  unfold setItem
  try with_reducible refine wpAny_holding ?_
  first | refine wpAny_bind (wpAny_pure ?_) | skip
  refine wpAny_bind (wpAny_sequenceKey hl.typeIs (by decide) ?_)
  refine wpAny_bind (wpAny_callSpecial?_slot (name := Str.ofString "__setitem__") hl.typeIs slot_list_setitem
    (wpAny_call_entry slot_list_setitem hl.typeIs entry_list_setitem ?_ (args_list_setitem _ _ _)))
  show wpAny _ _ (Builtin.List.listSubscript? (.ref sl) >>= _) _ _ s
  refine wpAny_bind ?_
  unfold Builtin.List.listSubscript?
  refine wpAny_bind (wpAny_specialOf hTs slice_no_index ?_)
  simp only [Option.isNone_none, if_true]
  refine wpAny_pure ?_
  show wpAny _ _ (typeOf (.ref sl) >>= _) _ _ s
  refine wpAny_bind (wpAny_typeOf hTs ?_)
  first
    | rw [if_neg (by decide)]
    | refine PySem.W.KFB.if_not (by decide) ?_
  rw [listSliceParts_eq]
  refine wpAny_bind (wpAny_bind (wpAny_field hos hds (x := .none) rfl (wpAny_bind (wpAny_listPart .none ?_))))
  rw [if_neg hstep]
  refine wpAny_bind (wpAny_field hos hds (x := vl) rfl (wpAny_bind (wpAny_listPart pl ?_)))
  refine wpAny_bind (wpAny_field hos hds (x := vu) rfl (wpAny_bind (wpAny_listPart pu (wpAny_pure ?_))))
  first
    | simp only [hsame, Bool.false_eq_true, if_false]
    | refine PySem.W.KFB.if_not hsame ?_
    | (dsimp only
       rw [if_neg (by rw [hsame]; exact Bool.false_ne_true)])
  refine wpAny_bind (m := Builtin.List.listAllItems (.ref b) "must assign iterable to extended slice") ?_
  unfold Builtin.List.listAllItems
  refine wpAny_bind (wpAny_typeOf hb.typeIs ?_)
  first
    | refine PySem.W.KFB.if_so (by decide) ?_
    | rw [if_pos (by decide)]
    | simp only [beq_self_eq_true, Bool.true_or, if_true]
  unfold Builtin.List.listItems
  refine wpAny_bind (wpAny_seqItems e2 rfl (wpAny_pure ?_))
  refine wpAny_bind (wpAny_bind (wpAny_seqItems e rfl (wpAny_pure ?_)))
  refine wpAny_bind (wpAny_of_eq ((sliceIndices_raw (some (a : Int)) (some (c : Int)) none items.size (by simp)).trans (congrArg (pure : Int × Int × Int → Sem (Int × Int × Int)) (bounds_run hac hc))) ?_)
  show wpAny _ _ (if ((1 : Int) == 1) = true then _ else _) _ _ s
  rw [if_pos (by decide)]
  refine wpAny_bind (wpAny_rule ?_)
  first
    | simp only [notLongL hsz, Bool.false_eq_true, if_false]
    | refine PySem.W.KFB.if_not (notLongL hsz) ?_
  first | refine wpAny_bind (wpAny_pure ?_) | skip
  show wpAny _ _ (updateSeq l (fun xs => xs.extract 0 ((a : Int)).toNat ++ new ++ xs.extract (max (a : Int) (c : Int)).toNat xs.size) >>= _) _ _ s
  rw [hmax, Int.toNat_natCast]
  refine wpAny_bind (wpAny_updateSeq (hz := Nat.le_trans (Nat.le_add_right _ _) hsz) (_hz' := hz') e rfl ?_)
  refine wpAny_bind (wpAny_letGo ?_)
  first
    | exact wpAny_bind (wpAny_pure (wpAny_pure ⟨.none, rfl, wpAny_pure h⟩))
    | exact wpAny_pure ⟨.none, rfl, wpAny_pure h⟩
end

section
variable {X : Cx}
/-- xs[a:c] = ys of another list, at the value level: sl is the slice object that was just made -/
theorem set_slice {pins : List (Addr × Obj)} {s : Shared} {σ : St} {H : Hp} {l b sl : Addr} {xs ys : List V} {a c : Int} {vl vu : Value} {Q : Unit → Shared → Prop} (I : Inv X pins σ H s)
    (hH : H l = some (.lst xs)) (hB : H b = some (.lst ys)) (hne : l ≠ b) (hs : s.heap.IsSliceOf sl vl vu .none) (ra : RelV (.int a) vl) (rc : RelV (.int c) vu) (h0 : 0 ≤ a) (hac : a ≤ c) (hc : c ≤ xs.length)
    (hz : xs.length + ys.length ≤ sizeLine) (h : ∀ s', Inv X pins σ (upd H l (.lst (xs.take a.toNat ++ ys ++ xs.drop c.toNat))) s' → Q () s') :
    wpAny (model X.prog X.w) X.A (setItem (.ref l) (.ref sl) (.ref b)) Q X.xe s := by
  obtain ⟨ta, rfl⟩ := ra
  obtain ⟨tc, rfl⟩ := rc
  obtain ⟨z, its, n, r, hl, e⟩ := I.lstM hH
  obtain ⟨z2, its2, n2, r2, hl2, e2⟩ := I.lstM hB
  obtain ⟨a', rfl⟩ := Int.eq_ofNat_of_zero_le h0
  obtain ⟨c', rfl⟩ := Int.eq_ofNat_of_zero_le (Int.le_trans h0 hac)
  simp only [Int.toNat_natCast] at h
  refine setItem_slice (a := a') (c := c') e e2 hne hs (.int _ _) (.int _ _) (by omega) (by rw [List.size_toArray]; omega) (by rw [List.size_toArray, List.size_toArray]; omega) (h _ ?_)
  refine I.lset (its' := its.take a' ++ its2 ++ its.drop c') (t' := s.toks) hH e ?_ (Vals.append (Vals.append (r.take _) r2) (r.drop _)) ?_
  · exact splice_eq its its2 a' c'
  · rw [List.length_append, List.length_append, List.length_take, List.length_drop]
    omega
end
end L2

namespace Att
open PySem PySem.W PySem.Calls PyProof.Rows

/-! ### the script -/
theorem ints_of_wellAll {P : Params} {h : Heap} : ∀ (ns : List Int) (vs : List Value), WellAll P h vs (ns.map WData.int) → IntsAre vs ns := by
  intro ns
  induction ns with
  | nil =>
    intro vs w
    rw [List.map_nil] at w
    cases w
    exact .nil
  | cons n ns ih =>
    intro vs w
    rw [List.map_cons] at w
    cases w with
    | cons a b =>
      cases a
      exact .cons _ _ (ih _ b)

theorem script_of {l : OpenLaw} {n : Nat} (hn : l.most = some n) {P : Params} {h : Heap} {args : List WData} {vals : List Value}
    (hpre : l.row.toRowW.claim.pre args = true) (hwl : WellAll P h vals args) :
    ∃ a vs ns, vals = [Value.ref a] ∧ args = [WData.list (ns.map WData.int)] ∧ h.get? a = some { cls := .type "list", data := .seq vs.toArray } ∧ IntsAre vs ns ∧ ns.length ≤ n := by
  have hsh : WShape.hasAll [] args [.list .int] = true := (pre_splitW hpre).1
  have hc : l.pre.holds [] { args := args } = true := (pre_splitW hpre).2
  obtain ⟨d, r, rfl, h1, h2⟩ := hasAllW_cons hsh
  obtain rfl := hasAllW_nil h2
  obtain ⟨xs, rfl, h3⟩ := hasW_list h1
  obtain ⟨ns, rfl⟩ := items_int h3
  have hlen : ns.length ≤ n := by
    unfold OpenLaw.pre at hc
    have h4 : (WTm.not (.lt (.lit (.int (n : Int))) (.len (.arg 0)))).holds [] { args := [.list (ns.map .int)] } = true := by
      have h4 := (holds_andW hc).1
      rw [hn] at h4
      exact h4
    have h5 := condW_of h4 (w_not (w_lt w_lit (w_len_list (w_arg rfl))))
    rw [List.length_map] at h5
    refine Nat.le_of_not_lt fun q => ?_
    have q' : (n : Int) < ((ns.length : Nat) : Int) := by omega
    first
      | (rw [decide_eq_true q'] at h5; exact absurd h5 (by decide))
      | (simp at h5; omega)
  cases hwl with
  | cons w1 w2 =>
    cases w2
    cases w1 with
    | list ho hall => exact ⟨_, _, ns, rfl, rfl, ho, ints_of_wellAll ns _ hall, hlen⟩

theorem post_true (l : OpenLaw) (args : List WData) : l.row.toRowW.claim.post args (.bool true) args = true :=
  postW_of (r := l.row.toRowW) (X := (true == true))
    (show WShape.has [] (.bool true) .bool = true by first | rfl | decide | simp [WShape.has, WShape.arms, WShape.armsAll])
    (show (WTm.eq .res (.lit (.bool true))).value [] { args := args, res := some (.bool true), after := args } = some (.bool (true == true)) from w_eq_bool (w_res rfl) w_lit) rfl

/-! ### the attachment: holds_open's last premise (the goal 'hc' behind k_head) from a wpAny of the law's body -/
theorem attach {l : OpenLaw} {n : Nat} {q : Program} {loose : List Str} {XP : (Str → Option Value) → Heap → Prop} {YP : World → Heap → Prop} {d : DefRec} {x : Str}
    (hn : l.most = some n) (hdf : d.params.defaults = [])
    (hbind : ∀ pm cd doc v : Value, bindArgs (docDef d.name d.params d.body d.scope pm cd doc) ⟨[v], []⟩ = pure [(x, v)])
    (hx : d.scope.names.lookup x = some .local ∨ d.scope.names.lookup x = some .cell)
    (hk : d.scope.kind = .function) (hco : d.scope.isCoroutine = false) (hgen : d.scope.isGenerator = false)
    (body : ∀ (w : World) (s₀ s₁ s : Shared) (mg mb : Str → Option Value) (fa : Addr) (o : Obj) (pm cd doc : Value) (a : Addr) (vs : List Value) (ns : List Int),
      Ground q loose [] XP w s₀ mg mb s₁.heap → YP w s₁.heap →
      s₁.heap.get? fa = some o → o.data = .func (docDef d.name d.params d.body d.scope pm cd doc) → s₁.heap.CodeRec cd d.name → mg d.name = some (.ref fa) →
      s₁.heap.get? a = some { cls := .type "list", data := .seq vs.toArray } → IntsAre vs ns → ns.length ≤ n →
      s.gens = #[] → s.os = s₁.os →
      Fr s₁.heap s₁.heap.objs.size s.heap (bindL (envOfC d.name d.scope s₁.heap.objs.size fa cd).kindOf [(x, .ref a)] fun _ => none) →
      Cl s₁.heap.objs.size (cellsFrom (s₁.heap.objs.size + 1) d.scope.names []) s.heap (bindC (envOfC d.name d.scope s₁.heap.objs.size fa cd).kindOf [(x, .ref a)] fun _ => none) →
      wpAny (model l.prog w) (callerA.deeper (envOfC d.name d.scope s₁.heap.objs.size fa cd)) (execs d.body (envOfC d.name d.scope s₁.heap.objs.size fa cd))
        (fun f s' => f = .ret (.bool true) ∧ OldK s₁.heap s'.heap ∧ s'.os = s₁.os ∧ AllBare s'.gens) (fun _ _ => False) s) :
    WalkO q loose XP YP l.row.toRowW d [] (fun f vs => PySem.call f vs) := by
  intro w s₀ s₁ mg mb G Y fa o pm cd doc dV kV ho hd hcd hD hmg hg args vals as hpre hlay hrd hwl hlo
  obtain rfl : dV = .none := Dflts.none hD hdf
  obtain rfl : kV = .none := Dflts.noKw hD
  obtain ⟨a, vs, ns, rfl, rfl, hobj, hints, hlen⟩ := script_of hn hpre hwl
  refine enter_call ?_
  refine call_cells_ret (o := o) (by rw [depth_caller]; decide) ho (fd_plain hd) G.T.nolimit hcd (hbind pm cd doc (.ref a)) (fun y hy => ?_) (fun h₁ tk F X => ?_) hco hgen hk
  · obtain rfl : y = (x, Value.ref a) := List.mem_singleton.mp hy
    rcases hx with e | e
    · exact .inl e
    · exact .inr ⟨e, cellsFrom_some _ _ _ (.inl e)⟩
  · refine wpAny_mono (body w s₀ s₁ { s₁ with heap := h₁, toks := tk } mg mb fa o pm cd doc a vs ns G Y ho (fd_plain hd) hcd hmg hobj hints hlen hg rfl F X) (fun f s' hq => ?_) (fun _ _ hq => hq)
    obtain ⟨rfl, h2, h3, h4⟩ := hq
    exact ⟨.inl ⟨.bool true, .bool true, [], rfl, fun _ => rfl, .bool true, post_true l _, fun _ => ⟨List.Pairwise.nil, fun _ hm => (nomatch hm)⟩⟩, h2, h3, h4⟩

/-- the same from a codeAny of the CALL (for a layer whose function contracts speak of calls) -/
theorem attach_call {l : OpenLaw} {n : Nat} {q : Program} {loose : List Str} {XP : (Str → Option Value) → Heap → Prop} {YP : World → Heap → Prop} {d : DefRec}
    (hn : l.most = some n) (hdf : d.params.defaults = [])
    (call : ∀ (w : World) (s₀ s₁ : Shared) (mg mb : Str → Option Value) (fa : Addr) (o : Obj) (pm cd doc : Value) (a : Addr) (vs : List Value) (ns : List Int),
      Ground q loose [] XP w s₀ mg mb s₁.heap → YP w s₁.heap →
      s₁.heap.get? fa = some o → o.data = .func (docDef d.name d.params d.body d.scope pm cd doc) → s₁.heap.CodeRec cd d.name → mg d.name = some (.ref fa) →
      s₁.heap.get? a = some { cls := .type "list", data := .seq vs.toArray } → IntsAre vs ns → ns.length ≤ n → s₁.gens = #[] →
      codeAny (model l.prog w) callerA (.call (.ref fa) ⟨[.ref a], []⟩) (fun r s' => r = .ok (.ret (.bool true)) ∧ OldK s₁.heap s'.heap ∧ s'.os = s₁.os ∧ AllBare s'.gens) s₁) :
    WalkO q loose XP YP l.row.toRowW d [] (fun f vs => PySem.call f vs) := by
  intro w s₀ s₁ mg mb G Y fa o pm cd doc dV kV ho hd hcd hD hmg hg args vals as hpre hlay hrd hwl hlo
  obtain rfl : dV = .none := Dflts.none hD hdf
  obtain rfl : kV = .none := Dflts.noKw hD
  obtain ⟨a, vs, ns, rfl, rfl, hobj, hints, hlen⟩ := script_of hn hpre hwl
  refine enter_call (codeAny_mono (call w s₀ s₁ mg mb fa o pm cd doc a vs ns G Y ho (fd_plain hd) hcd hmg hobj hints hlen hg) fun r s' hq => ?_)
  obtain ⟨rfl, h2, h3, h4⟩ := hq
  exact ⟨.inl ⟨.bool true, .bool true, [], rfl, fun _ => rfl, .bool true, post_true l _, fun _ => ⟨List.Pairwise.nil, fun _ hm => (nomatch hm)⟩⟩, h2, h3, h4⟩

/-- the same where the top left finished generators (o_head chose holds_openN): nothing may have changed at all and no generator may be left -/
theorem attachN {l : OpenLaw} {n : Nat} {q : Program} {loose : List Str} {XP : (Str → Option Value) → Heap → Prop} {YP : World → Heap → Prop} {d : DefRec} {x : Str}
    (hn : l.most = some n) (hdf : d.params.defaults = [])
    (hbind : ∀ pm cd doc v : Value, bindArgs (docDef d.name d.params d.body d.scope pm cd doc) ⟨[v], []⟩ = pure [(x, v)])
    (hx : d.scope.names.lookup x = some .local ∨ d.scope.names.lookup x = some .cell)
    (hk : d.scope.kind = .function) (hco : d.scope.isCoroutine = false) (hgen : d.scope.isGenerator = false)
    (body : ∀ (w : World) (s₀ s₁ s : Shared) (mg mb : Str → Option Value) (fa : Addr) (o : Obj) (pm cd doc : Value) (a : Addr) (vs : List Value) (ns : List Int),
      Ground q loose [] XP w s₀ mg mb s₁.heap → YP w s₁.heap →
      s₁.heap.get? fa = some o → o.data = .func (docDef d.name d.params d.body d.scope pm cd doc) → s₁.heap.CodeRec cd d.name → mg d.name = some (.ref fa) →
      s₁.heap.get? a = some { cls := .type "list", data := .seq vs.toArray } → IntsAre vs ns → ns.length ≤ n →
      s.gens = #[] → s.os = s₁.os →
      Fr s₁.heap s₁.heap.objs.size s.heap (bindL (envOfC d.name d.scope s₁.heap.objs.size fa cd).kindOf [(x, .ref a)] fun _ => none) →
      Cl s₁.heap.objs.size (cellsFrom (s₁.heap.objs.size + 1) d.scope.names []) s.heap (bindC (envOfC d.name d.scope s₁.heap.objs.size fa cd).kindOf [(x, .ref a)] fun _ => none) →
      wpAny (model l.prog w) (callerA.deeper (envOfC d.name d.scope s₁.heap.objs.size fa cd)) (execs d.body (envOfC d.name d.scope s₁.heap.objs.size fa cd))
        (fun f s' => f = .ret (.bool true) ∧ (∀ b o, s₁.heap.get? b = some o → s'.heap.get? b = some o) ∧ s'.os = s₁.os ∧ s'.gens = #[]) (fun _ _ => False) s) :
    WalkN q loose XP YP l.row.toRowW d [] (fun f vs => PySem.call f vs) := by
  intro w s₀ s₁ mg mb G Y fa o pm cd doc dV kV ho hd hcd hD hmg hg args vals as hpre hlay hrd hwl hlo
  obtain rfl : dV = .none := Dflts.none hD hdf
  obtain rfl : kV = .none := Dflts.noKw hD
  obtain ⟨a, vs, ns, rfl, rfl, hobj, hints, hlen⟩ := script_of hn hpre hwl
  refine enter_callW ?_
  refine call_cells_ret (o := o) (by rw [depth_caller]; decide) ho (fd_plain hd) G.T.nolimit hcd (hbind pm cd doc (.ref a)) (fun y hy => ?_) (fun h₁ tk F X => ?_) hco hgen hk
  · obtain rfl : y = (x, Value.ref a) := List.mem_singleton.mp hy
    rcases hx with e | e
    · exact .inl e
    · exact .inr ⟨e, cellsFrom_some _ _ _ (.inl e)⟩
  · refine wpAny_mono (body w s₀ s₁ { s₁ with heap := h₁, toks := tk } mg mb fa o pm cd doc a vs ns G Y ho (fd_plain hd) hcd hmg hobj hints hlen hg rfl F X) (fun f s' hq => ?_) (fun _ _ hq => hq)
    obtain ⟨rfl, h2, h3, h4⟩ := hq
    exact ⟨.inl ⟨.bool true, .bool true, [], rfl, fun _ => rfl, .bool true, post_true l _, fun _ => ⟨List.Pairwise.nil, fun _ hm => (nomatch hm)⟩⟩, h2, h3, h4⟩

/-! ### rules over ANY heap (no ledger) from facts about the written part K: the library's own take a ledger (News) for what they write -/
section
variable {prog : Program} {w : World} {A : Around} {E : Value → Shared → Prop} {s : Shared} {K : Frag}

/-- a def of the module, or a method (qual 'C.m'), entered: the frame is the next address; cells behind it -/
theorem call_fn {R : Result → Shared → Prop} {name qual : Str} {params : Arguments} {body : List Stmt} {scope : Scope} {dV kV doc pm cdv ct oc : Value} {an od : Option Addr} {osl : Array (Option Value)} {f : Addr} {args : Args} {binds : List (Str × Value)}
    (X : K.In s.heap) (hlim : s.heap.NoLimit) (ho : K.lookup f = some ⟨oc, od, .func (fnOf name qual params body scope dV kV doc pm an cdv ct), osl⟩) (hcd : codeIn K cdv qual = true) (hroom : A.depth < recursionLimit)
    (hbind : BindsTo s (fnOf name qual params body scope dV kV doc pm an cdv ct) args binds)
    (hkind : (binds.all fun y => scope.names.lookup y.1 == some .local || scope.names.lookup y.1 == some .cell) = true)
    (h : ∀ s₁, InCallC s s.heap.objs.size (bindL (envOfC qual scope s.heap.objs.size f cdv).kindOf binds fun _ => none) (cellsFrom (s.heap.objs.size + 1) scope.names [])
        (bindC (envOfC qual scope s.heap.objs.size f cdv).kindOf binds fun _ => none) s₁ →
      wpAny (model prog w) (A.deeper (envOfC qual scope s.heap.objs.size f cdv)) (execs body (envOfC qual scope s.heap.objs.size f cdv))
        (fun fl s' => R (.ok (.ret (match fl with | .ret v => v | _ => .none))) s')
        (fun e s' => wpAny (model prog w) (A.deeper (envOfC qual scope s.heap.objs.size f cdv)) (leaving (envOfC qual scope s.heap.objs.size f cdv) e) (fun _ s'' => R (.error e) s'') (fun e' s'' => R (.error e') s'') s') s₁)
    (hco : scope.isCoroutine = false) (hgen : scope.isGenerator = false) (hk : scope.kind = .function) : codeAny (model prog w) A (.call (.ref f) args) R s := by
  refine codeAny_call_function hroom (X _ _ ho) rfl hco hgen rfl (codeRec_of X hcd) (hbind _ _ _ _ ?_)
  refine wpAny_newFunctionEnv_cells hk (kindsX hkind _) fun env he s₁ x => ?_
  subst he
  exact ⟨hlim.keeps x.toInCall.keep, codeAny_func (h s₁ x)⟩

/-- C(..): dict at size, instance at size + 1, then __init__ -/
theorem make_obj {R : Result → Shared → Prop} {C fI : Addr} {rest : List Value} {kw : List (Str × Value)}
    (X : K.In s.heap) (hm : makesIn K C = true) (hi : findIn K (.ref C) "__init__" = some (some (.ref fI))) (hf : isFn K (.ref fI) = true)
    (h : codeAny (model prog w) (A.under (.builtin "type.__call__" ⟨.ref C :: rest, kw⟩)) (.call (.ref fI) ⟨.ref (s.heap.objs.size + 1) :: rest, kw⟩) (InitBack (s.heap.objs.size + 1) R)
      { s with heap := (s.heap.push emptyDict).push (instObj C s.heap.objs.size) }) : codeAny (model prog w) A (.call (.ref C) ⟨rest, kw⟩) R s := by
  obtain ⟨hh, g, d, t, os⟩ := s
  exact make_core (makes_of X hm) (looks_findIn X hi) (fun self => bind_fn X self (beq_iff_eq.mp hf)) (.inl rfl) h

/-- x.name where the instance's dict holds the name and the class does not -/
theorem get_field {x C : Addr} {ox : Obj} {es : List DictEntry} {n : Nat} {name : Str} {expr : Bool} {v : Value} {Q : Value → Shared → Prop}
    (X : K.In s.heap) (I : PySem.W.InstAt s.heap x ox C (some (dictOf es n))) (hg : plainGet K C name = true) (hh : hasDictIn K C = true) (ha : findIn K (.ref C) name = some none)
    (hl : getL name es = some (some v)) (hv : handedIn v = true) (h : Q v { s with toks := s.toks + 1 }) : wpAny (model prog w) A (getAttr (.ref x) name expr) Q E s :=
  get_value X I (plainGet_of hg).1 (findObj_own hh ha rfl hl) hv h

/-- x.m(..): the method found in the class -/
theorem get_method {x C f : Addr} {ox : Obj} {es : List DictEntry} {n : Nat} {name : Str} {pl : Sem Bool} {Q : Value × List Value → Shared → Prop}
    (X : K.In s.heap) (I : PySem.W.InstAt s.heap x ox C (some (dictOf es n))) (hg : plainGet K C name = true) (hf : findIn K (.ref C) name = some (some (.ref f))) (ht : isFn K (.ref f) = true)
    (hl : getL name es = some none) (h : Q (.ref f, [.ref x]) s) : wpAny (model prog w) A (getMethod (.ref x) name pl) Q E s :=
  method_fn X I (plainGet_of hg).1 (plainGet_of hg).2 hf (beq_iff_eq.mp ht) (by show (lookIn name (dictOf es n)).map _ = _; rw [lookIn_dict, hl]; rfl) h

/-! the whole heap as the ledger: makes every rule that writes through a ledger a rule over any heap -/
def noObjs (h : Heap) : Heap := { h with objs := #[] }
theorem noObjs_get (h : Heap) (b : Addr) : (noObjs h).get? b = none := by
  cases e : (noObjs h).get? b with
  | none => rfl
  | some o => exact absurd (Heap.lt_size e) (Nat.not_lt_zero _)
def ledger (h : Heap) (L d : Addr) : List (Addr × Obj) := (List.range h.objs.size).filterMap fun a => if a = L ∨ a = d then none else (h.get? a).map fun o => (a, o)
theorem mem_ledger {h : Heap} {L d a : Addr} {o : Obj} : (a, o) ∈ ledger h L d ↔ a ≠ L ∧ a ≠ d ∧ h.get? a = some o := by
  unfold ledger
  rw [List.mem_filterMap]
  constructor
  · rintro ⟨b, _, e⟩
    split at e
    · cases e
    · rename_i hb
      obtain ⟨o', ho, e'⟩ := Option.map_eq_some_iff.mp e
      cases e'
      exact ⟨fun q => hb (.inl q), fun q => hb (.inr q), ho⟩
  · rintro ⟨n1, n2, ho⟩
    refine ⟨a, List.mem_range.mpr (Heap.lt_size ho), ?_⟩
    rw [if_neg (show ¬ (a = L ∨ a = d) from fun q => q.elim n1 n2), ho] <;> rfl
theorem news_ledger {h : Heap} {L d : Addr} {od : Obj} (hne : d ≠ L) (ho : h.get? d = some od) : News (noObjs h) L h ([] ++ (d, od) :: ledger h L d) := by
  rintro ⟨a, o⟩ hp
  rcases List.mem_cons.mp hp with e | hp
  · cases e
    exact ⟨ho, hne, noObjs_get _ _⟩
  · obtain ⟨n1, n2, e⟩ := mem_ledger.mp hp
    exact ⟨e, n1, noObjs_get _ _⟩
theorem fr_all {h : Heap} {L : Addr} {m : Str → Option Value} (n : h.Ns L m) : Fr (noObjs h) L h m :=
  ⟨n, fun b o e => (by rw [noObjs_get] at e; cases e), Nat.zero_le _⟩
/-- Upd of the head entry (for append_K, setItem_K ..) -/
theorem upd_ledger {h : Heap} {L d : Addr} {o o' : Obj} : Upd d o o' ((d, o) :: ledger h L d) ((d, o') :: ledger h L d) :=
  .head fun ⟨_, _⟩ hp => (mem_ledger.mp hp).2.1

/-- x.name = v over any heap: L is any namespace of the heap (the frame's, say): its map stays, its object is not told; all else but the dict stays -/
theorem set_field {x C dx L : Addr} {ox : Obj} {m : Str → Option Value} {es es' : List DictEntry} {n n' : Nat} {name : Str} {v : Value} {Q : Unit → Shared → Prop}
    (X : K.In s.heap) (I : PySem.W.InstAt s.heap x ox C (some (dictOf es n))) (hd : ox.dict = some dx) (hL : s.heap.Ns L m) (hne : dx ≠ L)
    (hs : findIn K (.ref C) "__setattr__" = some (some (.builtin "object.__setattr__"))) (hp : plainOver K C = true) (ht : takerIn K C name = some none) (hh : hasDictIn K C = true) (hl : (getL name es).isSome = true)
    (e : (putL name (PyData.keyHash w.params name) (.str name (s.toks + 1)) v es, putN name es n) = (es', n')) (hz : es'.length ≤ 1000)
    (h : ∀ h' : Heap, h'.Ns L m → h'.get? dx = some (dictOf es' n') → (∀ b o, b ≠ dx → b ≠ L → s.heap.get? b = some o → h'.get? b = some o) → Q () { s with heap := h', toks := s.toks + 2 }) :
    wpAny (model prog w) A (setAttr (.ref x) name v) Q E s := by
  obtain ⟨e1, e2⟩ := Prod.mk.inj e
  have hdx : s.heap.get? dx = some (dictOf es n) := by
    have := I.dict
    rw [hd] at this
    exact this
  refine set_plain X I hs (osa_dict (s := { s with toks := s.toks + 1 }) (h₀ := noObjs s.heap) (L := L) (m := m) (od := dictOf es n) (od' := dictOf es' n') (es := es') (n := n') (pre := []) (post := ledger s.heap L dx)
    (fr_all hL) (news_ledger hne hdx) X I hd hp ht hh hl (fun _ q => nomatch q) (fun ⟨_, _⟩ q => (mem_ledger.mp q).2.1) (by rw [putName_dict, e1, e2]) rfl hz fun h' F' N' => ?_)
  exact h h' F'.ns (N'.get (List.Mem.head _)) fun b o n1 n2 ho => N'.get (List.Mem.tail _ (mem_ledger.mpr ⟨n2, n1, ho⟩))
end
end Att

namespace L2
open PySem PySem.Spec PyProof.Rows

theorem vals_ints : ∀ {vs : List Value} {ns : List Int}, IntsAre vs ns → Vals (ns.map V.int) vs
  | _, _, .nil => .nil
  | _, _, .cons n t h => .cons ⟨t, rfl⟩ (vals_ints h)

/-- nothing is tracked but the script, known to the object (or it is an object of the module) -/
def Only (H : Hp) : Prop := ∀ b, H b = none ∨ ∃ o xs, H b = some (.frz o (.lst xs))

/-- THE HEAD: the law's promise, at the heap behind the top. F, the promise of the law's def, may use that base is part of the heap (so K.In base, base.Ns mainGlobals mg stand in Mod) -/
theorem law_call {P : Program} {w : World} {K : PySem.W.Frag} {mg mb : Str → Option Value} {CX : CXT} {k : Nat} {fa a : Addr} {fd : FuncData} {x : Str} {sp : Sp} {s₁ : Shared} {vs : List Value} {ns : List Int}
    (KX : K.In s₁.heap) (hns : s₁.heap.Ns mainGlobals mg) (hb : s₁.heap.Ns builtinsNs mb) (hbb : ∀ x : Str, x ≠ "__name__" → mb x = bootBuiltins x) (hlim : s₁.heap.NoLimit) (hg : s₁.gens = #[])
    (ha : s₁.heap.get? a = some { cls := .type "list", data := .seq vs.toArray }) (hi : IntsAre vs ns) (hl : ns.length ≤ sizeLine) (hr : Room k callerA)
    (F : ∀ base : Heap, K.In base → base.Ns mainGlobals mg → FnOk P w K mg base CX k fa fd [x] sp) (hbind : ∀ (s : Shared) (u : Value), BindsTo s fd ⟨[u], []⟩ [(x, u)])
    (hsp : ∀ H : Hp, Only H → SqL K H a (ns.map V.int) → sp [.ref a] H (fun v _ => v = .bl true) fun _ _ _ => False)
    (hCX : ∀ H e s', CX [] H s₁ (fun _ _ _ => False) e s' → False) :
    codeAny (model P w) callerA (.call (.ref fa) ⟨[.ref a], []⟩) (fun r s' => r = .ok (.ret (.bool true)) ∧ OldK s₁.heap s'.heap ∧ s'.os = s₁.os ∧ AllBare s'.gens) s₁ := by
  have rv := vals_ints hi
  have lenV := hi.length
  -- from an abstract heap in which nothing but the script may be tracked
  have core : ∀ H : Hp, Only H → SqL K H a (ns.map V.int) → HOk P w H s₁.heap → (∀ b, H b ≠ none → b = a) → (H a ≠ none → K.lookup a = none) →
      codeAny (model P w) callerA (.call (.ref fa) ⟨[.ref a], []⟩) (fun r s' => r = .ok (.ret (.bool true)) ∧ OldK s₁.heap s'.heap ∧ s'.os = s₁.os ∧ AllBare s'.gens) s₁ := by
    intro H hO hS hok hA hK
    have base_of : ∀ {b : Addr} {o : Obj}, s₁.heap.get? b = some o → H b = none → (hidT s₁.heap H).get? b = some o := fun e n => hidT_get e n
    have noA : ∀ {b : Addr} {o : Obj} {es : Array DictEntry} {ep : Nat}, s₁.heap.get? b = some o → o.data = .dict es ep → H b = none := fun {b o es ep} e d => by
      cases q : H b with
      | none => rfl
      | some u =>
        have e' : b = a := hA b (by rw [q]; simp)
        subst e'
        rw [ha] at e; cases e
        have d' : Data.seq vs.toArray _ = Data.dict es ep := d
        cases d'
    have nsK : ∀ {b : Addr} {m : Str → Option Value}, s₁.heap.Ns b m → (hidT s₁.heap H).Ns b m := fun {b m} ⟨o, es, ep, e, d, r⟩ => ⟨o, es, ep, base_of e (noA e d), d, r⟩
    have hKb : K.In (hidT s₁.heap H) := fun b o e => base_of (KX b o e) (by
      cases q : H b with
      | none => rfl
      | some u =>
        have e' : b = a := hA b (by rw [q]; simp)
        subst e'
        rw [hK (by rw [q]; simp)] at e; cases e)
    have hM : Mod K mg (hidT s₁.heap H) := ⟨hKb, nsK hns, ⟨mb, nsK hb, hbb⟩, let ⟨mc, h1, h2⟩ := hlim; ⟨mc, nsK h1, h2⟩⟩
    have e0 : Env0 P w K mg (hidT s₁.heap H) callerA [] s₁ H := ⟨rfl, hM, fun b o e => of_hidT e, Nat.le_of_eq (hidT_size _ _), trivial, fun b hb => absurd (show b ∈ ([] : List Addr) from hb) (by simp), hok, .of_eq hg⟩
    refine codeAny_mono ((F _ hKb (nsK hns)).run callerA [] s₁ H ⟨[.ref a], []⟩ [.ref a] [.ref a] _ _ hr e0 (hbind s₁ (.ref a)) (.cons rfl .nil) (hsp H hO hS)) fun r s' h => ?_
    cases r with
    | error e => exact (hCX H e s' h).elim
    | ok fl =>
      cases fl with
      | next => exact False.elim h
      | brk => exact False.elim h
      | cont => exact False.elim h
      | ret u =>
        obtain ⟨v, H', os, bare, un, hok', r', q⟩ := h
        have q' : v = .bl true := q
        subst q'
        obtain rfl : u = Value.bool true := r'
        refine ⟨rfl, OldK.of_keep fun b o e => ?_, os, bare⟩
        cases q : H b with
        | none => exact un.keep b o e q (by intro z; exact absurd (show b ∈ ([] : List Addr) from z) (by simp)) (by simp)
        | some u =>
          rcases hO b with z | ⟨ob, xs, z⟩
          · rw [q] at z; cases z
          · have z2 := un.frzs b ob _ z
            obtain ⟨e1, _⟩ := hok b _ z
            obtain ⟨e2, _⟩ := hok' b _ z2
            rw [e] at e1; cases e1
            exact e2
  cases hk : K.lookup a with
  | some o =>
    -- the script is one of the module's own objects
    have e := KX a o hk
    rw [ha] at e
    cases e
    refine core (fun _ => none) (fun _ => .inl rfl) (.inr ⟨_, vs.toArray, _, hk, rfl, rfl, rfl, by rw [List.size_toArray, lenV]; exact hl, by simpa using rv⟩) (fun b u z => by have z' : (none : Option HO) = some u := z; cases z') (fun b z => absurd rfl z) fun z => absurd rfl z
  | none =>
    refine core (fun b => if b = a then some (.frz { cls := .type "list", data := .seq vs.toArray } (.lst (ns.map V.int))) else none) (fun b => ?_) (.inl (.inr ⟨{ cls := .type "list", data := .seq vs.toArray }, if_pos rfl⟩)) (fun b u z => ?_) (fun b z => ?_) fun _ => hk
    · by_cases hb : b = a
      · exact .inr ⟨_, _, if_pos hb⟩
      · exact .inl (if_neg hb)
    · by_cases hb : b = a
      · have z' := (if_pos hb).symm.trans z
        cases z'
        subst hb
        exact ⟨ha, by rw [List.length_map]; exact hl, vs, _, rv, ha⟩
      · have z' := (if_neg hb).symm.trans z
        cases z'
    · by_cases hb : b = a
      · exact hb
      · exact absurd (if_neg hb) z
end L2

namespace L2
open PySem PySem.Spec PyProof.Rows

abbrev KOf {K : PySem.W.Frag} {h : Heap} (_ : K.In h) : PySem.W.Frag := K

/-- the goal that k_head leaves (case hc), from the law's promise. F gives the function object fd (K's own) once, then the promise over every base -/
theorem walk_of {l : PySem.W.OpenLaw} {n k : Nat} {q : Program} {loose : List Str} {XP : (Str → Option Value) → Heap → Prop} {YP : World → Heap → Prop} {d : DefRec} {K : Params → PySem.W.Frag} {CX : World → CXT} {sp : World → Sp} {x : Str}
    (hn : l.most = some n) (hn2 : n ≤ sizeLine) (hdf : d.params.defaults = []) (hr : Room k callerA)
    (hY : ∀ (w : World) (h : Heap), YP w h → (K w.params).In h)
    (F : ∀ (w : World) (mg : Str → Option Value) (fa : Addr) (h : Heap), (K w.params).In h → h.Ns mainGlobals mg → mg d.name = some (.ref fa) →
      ∃ fd : FuncData, (∀ (s : Shared) (u : Value), BindsTo s fd ⟨[u], []⟩ [(x, u)]) ∧
        ∀ base : Heap, (K w.params).In base → base.Ns mainGlobals mg → FnOk l.prog w (K w.params) mg base (CX w) k fa fd [x] (sp w))
    (hsp : ∀ (w : World) (H : Hp) (a : Addr) (ns : List Int), ns.length ≤ n → Only H → SqL (K w.params) H a (ns.map V.int) → sp w [.ref a] H (fun v _ => v = .bl true) fun _ _ _ => False)
    (hCX : ∀ (w : World) (H : Hp) (s : Shared) (e : Value) (s' : Shared), CX w [] H s (fun _ _ _ => False) e s' → False) :
    PySem.W.WalkO q loose XP YP l.row.toRowW d [] (fun f vs => PySem.call f vs) := by
  refine Att.attach_call hn hdf fun w s₀ s₁ mg mb fa o pm cd doc a vs ns G Y ho hd hcd hmg hobj hints hlen hg => ?_
  have KX := hY w _ Y
  obtain ⟨fd, hb, hF⟩ := F w mg fa _ KX G.T.g hmg
  exact law_call KX G.T.g G.T.b G.T.builtins G.T.nolimit hg hobj hints (Nat.le_trans hlen hn2) hr hF hb (fun H hO hS => hsp w H a ns hlen hO hS) fun H e s' => hCX w H s₁ e s'
/-- the same where the promise hangs on the written part alone: (sp := My.sp_law), no hole under a binder -/
theorem walk_ofK {l : PySem.W.OpenLaw} {n k : Nat} {q : Program} {loose : List Str} {XP : (Str → Option Value) → Heap → Prop} {YP : World → Heap → Prop} {d : DefRec} {K : Params → PySem.W.Frag} {CX : CXT} {sp : PySem.W.Frag → Sp} {x : Str}
    (hn : l.most = some n) (hn2 : n ≤ sizeLine) (hdf : d.params.defaults = []) (hr : Room k callerA)
    (hY : ∀ (w : World) (h : Heap), YP w h → (K w.params).In h)
    (F : ∀ (w : World) (mg : Str → Option Value) (fa : Addr) (h : Heap), (K w.params).In h → h.Ns mainGlobals mg → mg d.name = some (.ref fa) →
      ∃ fd : FuncData, (∀ (s : Shared) (u : Value), BindsTo s fd ⟨[u], []⟩ [(x, u)]) ∧
        ∀ base : Heap, (K w.params).In base → base.Ns mainGlobals mg → FnOk l.prog w (K w.params) mg base CX k fa fd [x] (sp (K w.params)))
    (hsp : ∀ (K : PySem.W.Frag) (H : Hp) (a : Addr) (ns : List Int), ns.length ≤ n → Only H → SqL K H a (ns.map V.int) → sp K [.ref a] H (fun v _ => v = .bl true) fun _ _ _ => False)
    (hCX : ∀ (H : Hp) (s : Shared) (e : Value) (s' : Shared), CX [] H s (fun _ _ _ => False) e s' → False) :
    PySem.W.WalkO q loose XP YP l.row.toRowW d [] (fun f vs => PySem.call f vs) :=
  walk_of (K := K) (CX := fun _ => CX) (sp := fun w => sp (K w.params)) hn hn2 hdf hr hY F (fun w H a ns h1 h2 h3 => hsp (K w.params) H a ns h1 h2 h3) fun _ H s e s' => hCX H s e s'
end L2

/- THE LAST THEOREM (shape; LID, My.* are yours):
   My.Adr: a structure of the addresses that your layer names (classes, functions); My.Txt K t: a structure (Prop) of the equations over K;
   My.txt_mk : {K} {implicit addresses ..} (e1 : nsIn K mainGlobals "law" = some (some (.ref f))) (e2 : K.lookup f = some ⟨oc, od, .func (fnOf "law" "law" params body scope dV kV doc pm an cdv ct), sl⟩) (e3 : codeIn K cdv "law" = true) .. : ∃ t, My.Txt K t

set_option maxRecDepth 100000 in
set_option maxHeartbeats 0 in
theorem PySem.Challenge.cw_LID_holds : PySem.Challenge.rw_LID.Holds := by
  w_on; o_law; k_head; (case hw => w_witness2)
  k_fill
  refine L2.walk_of (l := PySem.Challenge.rw_LID) (n := 63) (k := 40) (x := "script") (CX := fun w => ..) (sp := fun _ => My.sp_law) rfl (by decide) rfl ⟨rfl, by decide, by decide⟩ (fun w h Y => PySem.W.kIn_of Y) ?F ?S ?C
  case F =>
    intro w mg fa h KX G hmg
    have T : ∃ t, My.Txt (L2.KOf KX) t := by
      dsimp only [L2.KOf]                          -- K must stand as «<heap const> w.params» for k_is
      refine' My.txt_mk ?e1 ?e2 ?e3 ..
      (case e1 => PySem.W.k_is)                    -- in the order: a name -> its address -> its object -> its parts
      (case e2 => PySem.W.k_is)
      ..
    obtain ⟨t, T⟩ := T
    have e0 := hmg.symm.trans (PySem.W.mg_of KX G T.law)
    cases e0                                       -- fa is the law's own address
    exact ⟨_, fun s u => .of_eq rfl, fun base kb nb => My.law_fn T kb nb⟩     -- if «.of_eq rfl» comes too early: refine' ⟨_, ?b, fun base kb nb => My.law_fn T kb nb⟩; exact fun s u => .of_eq rfl
  case S => exact fun w H a ns hl hO hS => ..
  case C => exact ..
(the tactic k_is has no namespace: write k_is) -/

/-! SHORT WORDS over the layer: a def of the text, its body, what a loop and a test want. -/
namespace L2
open PySem PySem.Spec PyProof.Rows

/-! ### the text by places -/
/-- the j-th statement of a class's body -/
def inClass (s : Stmt) (j : Nat) : Stmt := match s with
  | .ClassDef _ _ _ body _ _ _ _ _ _ _ => body.getD j (.Pass ⟨0, 0, 0, 0⟩)
  | _ => .Pass ⟨0, 0, 0, 0⟩
def defArgs (s : Stmt) : Arguments := match s with
  | .FunctionDef _ a _ _ _ _ _ _ _ _ => a
  | _ => { posonlyargs := [], args := [], vararg := none, kwonlyargs := [], kw_defaults := [], kwarg := none, defaults := [] }
def defBody (s : Stmt) : List Stmt := match s with
  | .FunctionDef _ _ b _ _ _ _ _ _ _ => b
  | _ => []
def defScope (s : Stmt) : Scope := match s with
  | .FunctionDef _ _ _ _ _ _ sc _ _ _ => sc
  | _ => { kind := .function, names := [], isGenerator := false, isCoroutine := false }

/-! ### no exception leaves a def -/
abbrev CX0 : CXT := fun _ _ _ _ _ _ => False
abbrev E0 : XK := fun _ _ _ => False
theorem pass0 {X : Cx} : Passes CX0 X E0 := fun _ _ _ _ _ _ _ h => h.elim

/-! ### a def (or method) of the text as it stands behind the top -/
structure Fun (K : PySem.W.Frag) (x qual : Str) (st : Stmt) (f : Addr) (fd : FuncData) : Prop where
  ex : ∃ (oc : Value) (od : Option Addr) (kV doc pm : Value) (an : Option Addr) (cdv ct : Value) (osl : Array (Option Value)),
    fd = PySem.W.fnOf x qual (defArgs st) (defBody st) (defScope st) .none kV doc pm an cdv ct ∧ K.lookup f = some ⟨oc, od, .func fd, osl⟩ ∧ PySem.W.codeIn K cdv qual = true
  kp : PySem.W.keepIn K (.ref f) = true
section
variable {P : Program} {w : World} {K : PySem.W.Frag} {mg : Str → Option Value} {base : Heap}
/-- THE RULE for a def: its body as a term of rules, and the reading of that term -/
theorem Fun.ok {x qual : Str} {st : Stmt} {f : Addr} {fd : FuncData} {N ps : List Str} {k : Nat} {sp : Sp} (F : Fun K x qual st f fd) (S : FnScope N ps (defScope st)) (len : ∀ vs H Q E, sp vs H Q E → vs.length = ps.length)
    (hbody : ∀ (cdv : Value) (A : Around) (outer : List Env) (s : Shared) (H : Hp) (vs : List V) (Q : VK) (E : XK), Room k (A.deeper (envOfC qual (defScope st) s.heap.objs.size f cdv)) → sp vs H Q E →
      ∃ t, PSs (cxOf CX0 P w K mg base N qual (defScope st) f cdv A outer s H E).nox (defBody st) t ∧ t { nx := fun _ H' => Q .non H', rt := Q } (start N vs) H) : FnOk P w K mg base CX0 (k + 1) f fd ps sp := by
  obtain ⟨oc, od, kV, doc, pm, an, cdv, ct, osl, rfl, lk, hcd⟩ := F.ex
  refine fn_of lk hcd S len fun A outer s H vs Q E hr hsp => ?_
  obtain ⟨t, h, q⟩ := hbody cdv A outer s H vs Q E hr hsp
  exact ⟨t, h.nox, q⟩
/-- how its arguments bind (no defaults): h is «fun _ _ _ _ _ _ us hl => match us, hl with | [_, _], _ => rfl», one _ a parameter -/
theorem Fun.binds {x qual : Str} {st : Stmt} {f : Addr} {fd : FuncData} {ps : List Str} (F : Fun K x qual st f fd)
    (h : ∀ (kV doc pm : Value) (an : Option Addr) (cdv ct : Value) (us : List Value), us.length = ps.length → bindArgs (PySem.W.fnOf x qual (defArgs st) (defBody st) (defScope st) .none kV doc pm an cdv ct) ⟨us, []⟩ = pure (ps.zip us)) : Binds K fd ps [] := by
  obtain ⟨oc, od, kV, doc, pm, an, cdv, ct, osl, rfl, lk, hcd⟩ := F.ex
  exact .all (h kV doc pm an cdv ct)
theorem fun_mk {x qual : Str} {st : Stmt} {f : Addr} {oc : Value} {od an : Option Addr} {osl : Array (Option Value)} {kV doc pm cdv ct : Value} (l : K.lookup f = some ⟨oc, od, .func (PySem.W.fnOf x qual (defArgs st) (defBody st) (defScope st) .none kV doc pm an cdv ct), osl⟩)
    (c : PySem.W.codeIn K cdv qual = true) (k : PySem.W.keepIn K (.ref f) = true) : Fun K x qual st f (PySem.W.fnOf x qual (defArgs st) (defBody st) (defScope st) .none kV doc pm an cdv ct) := ⟨⟨oc, od, kV, doc, pm, an, cdv, ct, osl, rfl, l, c⟩, k⟩
end
theorem hu_of {A : Around} {k : Nat} (hr : Room k A) : A.units + 1 < cLine := Nat.lt_of_le_of_lt (Nat.add_le_add_left (by decide : 1 ≤ 64) _) hr.units
theorem small1000 {n : Nat} (h : n ≤ 1000) : n < sizeLine := Nat.lt_of_le_of_lt h (by decide)

/-! ### expressions in short: the name that stands in the i-th slot -/
section
variable {X : Cx}
theorem pv (i : Nat) {x : Str} {pos : Pos} (hN : X.N[i]? = some x := by rfl) (hv : Vis X.env.scope x := by first | exact Or.inl rfl | exact Or.inr (Or.inl rfl) | exact Or.inr (Or.inr rfl)) (hd : (x == ("__debug__" : Str)) = false := by decide)
    (hcd : (x == ("__classdict__" : Str)) = false := by decide) : PE X (.Name x pos) (tVar i) := pe_var hN hv hd hcd
end

/-! ### tests -/
theorem iteF {A B : Prop} (h : B) : if false = true then A else B := by
  rw [if_neg Bool.false_ne_true]
  exact h
theorem iteT {A B : Prop} (h : A) : if true = true then A else B := by
  rw [if_pos rfl]
  exact h
theorem ite2 {c A B : Prop} [Decidable c] (h1 : c → A) (h2 : ¬ c → B) : if c then A else B := by
  by_cases h : c
  · rw [if_pos h]
    exact h1 h
  · rw [if_neg h]
    exact h2 h
theorem iteNS {c A B : Prop} [Decidable c] (hc : c) (h : B) : if (!decide c) = true then A else B := by
  rw [decide_eq_true hc]
  exact iteF h

/-! ### heaps -/
/-- all that was tracked is as it was -/
def Same (H H' : Hp) : Prop := ∀ b o, H b = some o → H' b = some o
theorem Same.refl (H : Hp) : Same H H := fun _ _ h => h
theorem Same.trans {H H1 H2 : Hp} (a : Same H H1) (b : Same H1 H2) : Same H H2 := fun c o h => b c o (a c o h)
theorem Same.free {H H' : Hp} (e : Same H H') {l : Addr} (h : H' l = Option.none) : H l = Option.none := by
  cases q : H l with
  | none => rfl
  | some o =>
    rw [e l o q] at h
    cases h
theorem Same.seq {K : PySem.W.Frag} {H H' : Hp} {a : Addr} {xs : List V} (e : Same H H') (h : SqL K H a xs) : SqL K H' a xs := by
  rcases h with (h | ⟨o, h⟩) | h
  · exact .inl (.inl (e _ _ h))
  · exact .inl (.inr ⟨o, e _ _ h⟩)
  · exact .inr h

end L2
set_option Elab.async false
set_option linter.all false
set_option maxRecDepth 100000
set_option maxHeartbeats 4000000
namespace L2
open PySem PySem.Spec PyProof.Rows
/-! ### a comprehension of lists, one clause, its target a name: the block's cells -/
def clo (env : Env) : List (Str × NameKind) → List (Str × Addr) → List (Str × Addr)
  | [], acc => acc
  | nk :: r, acc => clo env r (if nk.2 = .free then (nk.1, (env.cells.lookup nk.1).getD 0) :: acc else acc)
theorem closure_clo {sc : Scope} {env : Env} (h : ∀ x ∈ sc.names, x.2 = .free → ∃ c, env.cells.lookup x.1 = some c) : closureFor sc env = pure (clo env sc.names []) := by
  have all : ∀ (names : List (Str × NameKind)) (acc : List (Str × Addr)), (∀ x ∈ names, x.2 = .free → ∃ c, env.cells.lookup x.1 = some c) →
      (forIn names acc fun (x : Str × NameKind) (cs : List (Str × Addr)) => (do
        if (x.2 == NameKind.free) = true then do
            let c ← cellOf env x.1
            pure (ForInStep.yield ((x.1, c) :: cs))
          else pure (ForInStep.yield cs) : Sem (ForInStep (List (Str × Addr))))) = (pure (clo env names acc) : Sem (List (Str × Addr))) := by
    intro names
    induction names with
    | nil => intro acc _; rfl
    | cons nk r ih =>
      intro acc hh
      rw [List.forIn_cons]
      have hr := ih (acc := if nk.2 = .free then (nk.1, (env.cells.lookup nk.1).getD 0) :: acc else acc) fun x hx => hh x (List.mem_cons_of_mem _ hx)
      by_cases hk : nk.2 = .free
      · obtain ⟨c, hc⟩ := hh nk List.mem_cons_self hk
        have e1 : (nk.2 == NameKind.free) = true := by rw [hk]; rfl
        rw [if_pos e1]
        rw [if_pos hk, hc] at hr
        have e2 : cellOf env nk.1 = pure c := by unfold cellOf; rw [hc]
        rw [e2]
        have e3 : clo env (nk :: r) acc = clo env r ((nk.1, (some c).getD 0) :: acc) := by
          show clo env r (if nk.2 = .free then (nk.1, (env.cells.lookup nk.1).getD 0) :: acc else acc) = _
          rw [if_pos hk, hc]
        rw [e3]
        exact hr
      · have e1 : ¬ (nk.2 == NameKind.free) = true := by
          intro z
          exact hk (by revert z; cases nk.2 <;> intro z <;> first | rfl | exact absurd z (by decide))
        rw [if_neg e1]
        rw [if_neg hk] at hr
        have e3 : clo env (nk :: r) acc = clo env r acc := by
          show clo env r (if nk.2 = .free then (nk.1, (env.cells.lookup nk.1).getD 0) :: acc else acc) = _
          rw [if_neg hk]
        rw [e3]
        exact hr
  have q := all sc.names [] h
  unfold closureFor
  have q2 : (forIn sc.names ([] : List (Str × Addr)) fun (x : Str × NameKind) (cs : List (Str × Addr)) => (do
        if (x.2 == NameKind.free) = true then do
            let c ← cellOf env x.1
            pure (ForInStep.yield ((x.1, c) :: cs))
          else pure (ForInStep.yield cs) : Sem (ForInStep (List (Str × Addr))))) >>= (fun cs => (pure cs : Sem (List (Str × Addr)))) = pure (clo env sc.names []) := by
    rw [q]; rfl
  exact q2
theorem clo_get {env : Env} {y : Str} {c : Addr} : ∀ {names : List (Str × NameKind)} {acc : List (Str × Addr)}, (∀ x ∈ names, x.2 = .free → ∃ c, env.cells.lookup x.1 = some c) →
    (clo env names acc).lookup y = some c → acc.lookup y = some c ∨ env.cells.lookup y = some c
  | [], _, _, h => .inl h
  | nk :: r, acc, hh, h => by
    have hr : ∀ x ∈ r, x.2 = .free → ∃ c, env.cells.lookup x.1 = some c := fun x hx => hh x (List.mem_cons_of_mem _ hx)
    have h' : (clo env r (if nk.2 = .free then (nk.1, (env.cells.lookup nk.1).getD 0) :: acc else acc)).lookup y = some c := h
    by_cases hk : nk.2 = .free
    · rw [if_pos hk] at h'
      rcases clo_get hr h' with q | q
      · obtain ⟨d, hd⟩ := hh nk List.mem_cons_self hk
        rw [hd, List.lookup_cons] at q
        cases e : y == nk.1 with
        | true =>
          rw [e] at q
          have ey : y = nk.1 := by simpa using e
          cases q
          rw [ey]
          exact .inr hd
        | false =>
          rw [e] at q
          exact .inl q
      · exact .inr q
    · rw [if_neg hk] at h'
      exact clo_get hr h'
theorem clo_acc {env : Env} {y : Str} : ∀ {names : List (Str × NameKind)} {acc : List (Str × Addr)}, (acc.lookup y).isSome = true → ((clo env names acc).lookup y).isSome = true
  | [], _, h => h
  | nk :: r, acc, h => by
    show ((clo env r (if nk.2 = .free then (nk.1, (env.cells.lookup nk.1).getD 0) :: acc else acc)).lookup y).isSome = true
    refine clo_acc ?_
    by_cases hk : nk.2 = .free
    · rw [if_pos hk, List.lookup_cons]
      cases y == nk.1 with
      | true => rfl
      | false => exact h
    · rw [if_neg hk]; exact h
theorem clo_has {env : Env} {y : Str} : ∀ {names : List (Str × NameKind)} {acc : List (Str × Addr)}, (y, NameKind.free) ∈ names → ((clo env names acc).lookup y).isSome = true
  | [], _, h => nomatch h
  | nk :: r, acc, h => by
    show ((clo env r (if nk.2 = .free then (nk.1, (env.cells.lookup nk.1).getD 0) :: acc else acc)).lookup y).isSome = true
    rcases List.mem_cons.mp h with e | h
    · refine clo_acc ?_
      subst e
      rw [if_pos rfl, List.lookup_cons]
      simp
    · exact clo_has h
/-- the loop of a block, the step ahead of the store told too -/
theorem comp_loop {prog : Program} {w : World} {A : Around} {R : Result → Shared → Prop} {s : Shared} {elt target iter : Expr} {ifs : List Expr} {scope : Scope} {pos : Pos} {it acc : Value} {env : Env} (J : Nat → Shared → Prop)
    (turn : ∀ n s, J n s → wpAny (model prog w) A (pyNext it) (fun r s1 => match r with
      | none => R (.ok .next) s1
      | some v => wpAny (model prog w) A (letOwnedTupleGo target it v) (fun _ s1' => wpAny (model prog w) A (assign target env v) (fun _ s2 =>
          wpAny (model prog w) A (forIn ifs true fun c r => if r = true then do let ok ← isTrue c env (eval c env); pure (ForInStep.yield ok) else pure (ForInStep.yield r)) (fun ok s3 =>
            if ok = true then wpAny (model prog w) A (eval elt env) (fun x s4 => wpAny (model prog w) A (call (.builtin "list.append") [acc, x]) (fun _ s5 => ∃ m, m < n ∧ J m s5) (fun _ _ => False) s4) (fun _ _ => False) s3
            else ∃ m, m < n ∧ J m s3) (fun _ _ => False) s2) (fun _ _ => False) s1') (fun _ _ => False) s1) (fun _ _ => False) s) (n : Nat) (h : J n s) :
    codeAny (model prog w) A (.compLoop (.ListComp elt [⟨target, iter, ifs, 0⟩] scope pos) 0 it acc env) R s := by
  refine codeAny_loop rfl J (fun n s hJ => ?_) n h
  show wpAny _ A ((compTurn (.ListComp elt [⟨target, iter, ifs, 0⟩] scope pos) 0 it acc env).onRaise (fun x => do noteFrame x env; theTreesLotGoes x)) _ _ s
  refine wpAny_noted ?_
  rw [compTurn_list]
  have no : ∀ {α : Type} {t : Sem α} {Q Q' : α → Shared → Prop} {E : Value → Shared → Prop} {s : Shared}, wpAny (model prog w) A t Q (fun _ _ => False) s → (∀ a s, Q a s → Q' a s) → wpAny (model prog w) A t Q' E s := fun h k => wpAny_mono h k fun _ _ z => z.elim
  refine wpAny_bind (wpAny_standAt (wpAny_bind (no (turn n s hJ) fun r s1 h1 => ?_)))
  cases r with
  | none => exact wpAny_pure h1
  | some v =>
    refine wpAny_bind (no h1 fun _ s1' h1' => wpAny_bind (no h1' fun _ s2 h2 => wpAny_bind (no h2 fun ok s3 h3 => ?_)))
    cases ok with
    | false => exact wpAny_pure ⟨rfl, h3⟩
    | true => exact wpAny_bind (wpAny_bind (no h3 fun x s4 h4 => wpAny_bind (no h4 fun _ s5 h5 => wpAny_pure (wpAny_pure ⟨rfl, h5⟩))))
/-- the context of a comprehension's block -/
def compCx (X : Cx) (N : List Str) (sc : Scope) (C : Addr) (fp : List Addr) (pins : List (Addr × Obj)) (s : Shared) (H : Hp) : Cx where
  prog := X.prog
  w := X.w
  K := X.K
  mg := X.mg
  base := X.base
  A := X.A
  N := N
  s₀ := s
  H₀ := H
  env := compEnvC sc (clo X.env sc.names []) C X.env
  outer := X.stack
  stack := X.stack
  ex := fp
  fn := fun _ => false
  calm := X.calm
  pn := X.pn ++ pins
  xe := fun _ _ => False
/-- what is seen of the scopes: fsc the def's, N0 its names; sc the block's, N its names: the target x first, then the captured ones, which stand in the def's slots js -/
structure CScope (fsc sc : Scope) (N0 N : List Str) (js : List Nat) (x : Str) : Prop where
  kind : sc.kind = .function
  nocell : ∀ y ∈ sc.names, y.2 ≠ .cell
  names : ∀ y ∈ sc.names, y.2 = .local → sc.names.lookup y.1 = some .local
  loc : sc.names.lookup x = some .local
  nd : N.Nodup
  hd : N[0]? = some x
  frees : ∀ y ∈ sc.names, y.2 = .free → fsc.names.lookup y.1 = some .cell ∨ fsc.names.lookup y.1 = some .free
  lf : ∀ y ∈ sc.names, y.2 = .free → sc.names.lookup y.1 = some .free
  caps : N.drop 1 = js.map fun j => N0.getD j ""
  capin : ∀ j ∈ js, j < N0.length ∧ sc.names.lookup (N0.getD j "") = some .free
def capsOf (js : List Nat) (σ : St) : St := js.map fun j => (σ[j]?).join
abbrev TF := TT
def PF (Y : Cx) (ifs : List Expr) (t : TT) : Prop :=
  ∀ (pins : List (Addr × Obj)) (s : Shared) (σ : St) (H : Hp) (Q : Bool → Hp → Prop), Inv Y pins σ H s → t σ H Q →
    wpAny (model Y.prog Y.w) Y.A (forIn ifs true fun c r => if r = true then do let ok ← isTrue c Y.env (eval c Y.env); pure (ForInStep.yield ok) else pure (ForInStep.yield r)) (TP Y pins σ Q) Y.xe s
def tAll : TT := fun _ H Q => Q true H
theorem pf_nil {Y : Cx} : PF Y [] tAll := fun pins s σ H Q I h => wpAny_tests_nil ⟨H, I, h⟩
theorem pf_one {Y : Cx} {c : Expr} {t : TT} (h : PT Y c t) : PF Y [c] t := fun pins s σ H Q I q => wpAny_tests_one (h pins s σ H Q I q)
def tComp (js : List Nat) (wi : TI) (tt : TT) (te : TE) : TE := fun σ H Q => wi σ H fun J H1 => ∀ l, H1 l = none → ∃ W : Nat → Nat → List V → Hp → Prop, (∃ m, W 0 m [] (upd H1 l (.lst []))) ∧
  ∀ i m ys H, W i m ys H → H l = some (.lst ys) ∧ ((J.stop i H ∧ Q (.ref l) H) ∨ (J.go i H ∧ ∀ x H', J.yld i H x H' → tt (some x :: capsOf js σ) H' fun b H2 =>
    if b = true then te (some x :: capsOf js σ) H2 fun y H3 => H3 l = some (.lst ys) ∧ ys.length < sizeLine ∧ ∃ m', m' < m ∧ W (i + 1) m' (ys ++ [y]) (upd H3 l (.lst (ys ++ [y]))) else ∃ m', m' < m ∧ W (i + 1) m' ys H2))
section
variable {X : Cx} {elt iter : Expr} {ifs : List Expr} {fsc sc : Scope} {N0 N : List Str} {js : List Nat} {x : Str} {px pos : Pos} {wi : TI} {tt : TT} {te : TE}
theorem relabel_free {env : Env} {y : Str} : ∀ {names : List (Str × NameKind)}, names.lookup y = some .free →
    (names.map fun (nk : Str × NameKind) => if (nk.2 == .free && env.scope.kind == .function && env.kindOf nk.1 == some .cell) then (nk.1, NameKind.cell) else (nk.1, nk.2)).lookup y = some .cell ∨
    (names.map fun (nk : Str × NameKind) => if (nk.2 == .free && env.scope.kind == .function && env.kindOf nk.1 == some .cell) then (nk.1, NameKind.cell) else (nk.1, nk.2)).lookup y = some .free
  | [], h => by simp at h
  | nk :: r, h => by
    rw [List.map_cons]
    rw [List.lookup_cons] at h
    have ih := @relabel_free env y r
    cases e : y == nk.1 with
    | true =>
      rw [e] at h
      have hk : nk.2 = .free := Option.some.inj h
      by_cases hc : (nk.2 == .free && env.scope.kind == .function && env.kindOf nk.1 == some .cell) = true
      · rw [if_pos hc, List.lookup_cons, e]; exact .inl rfl
      · rw [if_neg hc, List.lookup_cons, e]; exact .inr (by rw [hk])
    | false =>
      rw [e] at h
      by_cases hc : (nk.2 == .free && env.scope.kind == .function && env.kindOf nk.1 == some .cell) = true
      · rw [if_pos hc, List.lookup_cons, e]; exact ih h
      · rw [if_neg hc, List.lookup_cons, e]; exact ih h
theorem relabel_back {env : Env} {y : Str} {k : NameKind} : ∀ {names : List (Str × NameKind)}, (k = .cell ∨ k = .free) → (∀ z ∈ names, z.2 ≠ .cell) →
    (names.map fun (nk : Str × NameKind) => if (nk.2 == .free && env.scope.kind == .function && env.kindOf nk.1 == some .cell) then (nk.1, NameKind.cell) else (nk.1, nk.2)).lookup y = some k → (y, NameKind.free) ∈ names
  | [], _, _, h => by simp at h
  | nk :: r, hk, hc, h => by
    rw [List.map_cons] at h
    have ih := @relabel_back env y k r hk fun z hz => hc z (List.mem_cons_of_mem _ hz)
    obtain ⟨n, kd⟩ := nk
    by_cases hb : (kd == .free && env.scope.kind == .function && env.kindOf n == some .cell) = true
    · rw [if_pos hb, List.lookup_cons] at h
      cases e : y == n with
      | true =>
        have ey : y = n := by simpa using e
        subst ey
        have : kd = .free := by
          rw [Bool.and_eq_true, Bool.and_eq_true] at hb
          have := hb.1.1
          revert this
          cases kd <;> intro z <;> first | rfl | exact absurd z (by decide)
        subst this
        exact List.mem_cons_self
      | false => simp only [e] at h; exact List.mem_cons_of_mem _ (ih h)
    · rw [if_neg hb, List.lookup_cons] at h
      cases e : y == n with
      | true =>
        have ey : y = n := by simpa using e
        subst ey
        simp only [e] at h
        have hkd : kd = k := Option.some.inj h
        have hne := hc (y, kd) List.mem_cons_self
        rcases hk with z | z
        · exact absurd (hkd.trans z) hne
        · rw [hkd, z]; exact List.mem_cons_self
      | false => simp only [e] at h; exact List.mem_cons_of_mem _ (ih h)

/-- the block's state at its entry -/
theorem comp_inv {pins : List (Addr × Obj)} {σ : St} {H : Hp} {s s3 : Shared} {l C : Addr} {fp : List Addr} {m : Str → Option Value} (S : CScope fsc sc N0 N js x) (hsc : X.env.scope = fsc) (hN : X.N = N0) (I : Inv X pins σ H s)
    (hfp : ∀ b ∈ fp, FpOk X pins H b) (hob : ∀ b ∈ fp, ∃ o, s.heap.get? b = some o) (hl : s.heap.objs.size ≤ l) (hC : s.heap.objs.size ≤ C) (hlC : l ≠ C)
    (kp : ∀ b o, s.heap.get? b = some o → s3.heap.get? b = some o) (hn : s3.heap.Ns C m) (hlst : ∃ n, s3.heap.get? l = some { cls := .type "list", data := .seq #[] n }) (ho : s3.os = s.os) (hg : s3.gens = s.gens) :
    Inv (compCx X N sc C fp pins s H) [] (none :: capsOf js σ) (upd H l (.lst [])) s3 := by
  have fre : ∀ y ∈ sc.names, y.2 = .free → ∃ c, X.env.cells.lookup y.1 = some c := fun y hy hk => I.ok.has y.1 (by
    have q := S.frees y hy hk
    rw [← hsc] at q
    exact q)
  have cget : ∀ y c, (clo X.env sc.names []).lookup y = some c → X.env.cells.lookup y = some c := fun y c e => by
    rcases clo_get fre e with q | q
    · cases q
    · exact q
  have old : ∀ b o, s.heap.get? b = some o → b ≠ C ∧ b ≠ l := fun b o e => ⟨Nat.ne_of_lt (Nat.lt_of_lt_of_le (Heap.lt_size e) hC), Nat.ne_of_lt (Nat.lt_of_lt_of_le (Heap.lt_size e) hl)⟩
  have freshC : H C = none := I.hok.fresh hC
  have freshl : H l = none := I.hok.fresh hl
  refine ⟨⟨I.ok.mod, S.kind, I.ok.glob, I.ok.blt, hC, fun y z c h1 h2 => I.ok.inj y z c (cget y c h1) (cget z c h2), fun y hy => ?_, fun y c h _ => absurd (show false = true from h) Bool.false_ne_true, I.ok.hd, I.ok.frames, .inl rfl, fun b hb => ?_, I.bs, Nat.le_trans I.ok.bsz I.sz, fun b o e hb => ?_, fun b hb hb2 => ?_, I.stack, I.stkFree⟩,
    ho, hg ▸ I.bare, Un.laid kp hl freshl, ⟨m, hn, fun i y v h1 h2 h3 => ?_⟩, fun y c e => ?_, ?_, fun y c e => ?_, fun p hp => ?_, ?_, ?_⟩
  · have hmem : (y, NameKind.free) ∈ sc.names := by
      rcases hy with hy | hy
      · exact relabel_back (.inl rfl) S.nocell hy
      · exact relabel_back (.inr rfl) S.nocell hy
    exact Option.isSome_iff_exists.mp (clo_has hmem)
  · obtain ⟨o, e⟩ := hob b hb
    exact ⟨(old b o e).1, fun y c q => (hfp b hb).2.2.2.2.1 y c (cget y c q)⟩
  · obtain ⟨f0, f1, f2, f3, f4, f5⟩ := hfp b hb
    rcases f3 with z | z
    · exact I.ok.noex b o e z
    · exact absurd (Nat.lt_of_lt_of_le (Heap.lt_size (I.ok.bs b o e).1) z) (Nat.lt_irrefl _)
  · obtain ⟨f0, f1, f2, f3, f4, f5⟩ := hfp b hb
    rcases List.mem_cons.mp (I.stkSub b hb2) with z | z
    · exact f1 z
    · exact f2 z
  · -- the captured names
    cases i with
    | zero => cases h2
    | succ i =>
      have h2' : (capsOf js σ)[i]? = some (some v) := h2
      unfold capsOf at h2'
      rw [List.getElem?_map] at h2'
      cases ej : js[i]? with
      | none => rw [ej] at h2'; cases h2'
      | some j =>
        rw [ej] at h2'
        have hσ : σ[j]?.join = some v := Option.some.inj h2'
        have hσ' : σ[j]? = some (some v) := by
          cases q : σ[j]? with
          | none => rw [q] at hσ; cases hσ
          | some o => rw [q] at hσ; cases o with
            | none => cases hσ
            | some v' => cases hσ; rfl
        have hy : y = N0.getD j "" := by
          have h1' : N[i + 1]? = some y := h1
          have := congrArg (fun L => L[i]?) S.caps
          simp only [List.getElem?_drop, List.getElem?_map, ej] at this
          rw [Nat.add_comm 1 i, h1'] at this
          exact Option.some.inj this
        obtain ⟨hjl, hjf⟩ := S.capin j (List.mem_of_getElem? ej)
        have hNj : X.N[j]? = some y := by
          rw [hN, hy]
          simp [hjl]
        rw [← hy] at hjf
        have hmem : (y, NameKind.free) ∈ sc.names := PySem.mem_of_lookup hjf
        have hk := S.frees _ hmem rfl
        rw [← hsc] at hk
        obtain ⟨mX, hnX, hlX⟩ := I.loc
        have hvis : Vis X.env.scope y := by
          rcases hk with z | z
          · exact .inr (.inl z)
          · exact .inr (.inr z)
        obtain ⟨u, ru, lk⟩ := hlX j y v hNj hσ' hvis
        refine ⟨u, ru, ?_⟩
        rcases lk with ⟨z, _⟩ | ⟨z, c, ec, ecell⟩
        · have z' : X.env.scope.names.lookup y = some .local := z
          rcases hk with q | q
          · rw [z'] at q; cases q
          · rw [z'] at q; cases q
        · refine .inr ⟨relabel_free hjf, ?_⟩
          obtain ⟨c', ec'⟩ := Option.isSome_iff_exists.mp (clo_has (env := X.env) (acc := []) hmem)
          have := cget y c' ec'
          rw [ec] at this
          cases this
          exact ⟨c, ec', ecell.keeps kp⟩
  · obtain ⟨v, q⟩ := I.cell y c (cget y c e)
    exact ⟨v, q.keeps kp⟩
  · show upd H l (.lst []) C = none
    rw [upd_ne (Ne.symm hlC)]
    exact freshC
  · show upd H l (.lst []) c = none
    obtain ⟨v, o, q, _⟩ := I.cell y c (cget y c e)
    rw [upd_ne (old c o q).2]
    exact I.freeC y c (cget y c e)
  · have hp' : p ∈ X.pn ++ pins := by
      have hp2 : p ∈ (X.pn ++ pins) ++ [] := hp
      rw [List.append_nil] at hp2
      exact hp2
    obtain ⟨e, n, ne, nf, d⟩ := I.pin p hp'
    refine ⟨kp _ _ e, ?_, (old _ _ e).1, fun z => ?_, d⟩
    · rw [upd_ne (old _ _ e).2]; exact n
    · rcases List.mem_cons.mp (I.stkSub p.1 z) with q | q
      · exact ne q
      · exact nf q
  · obtain ⟨n, e⟩ := hlst
    exact I.hok.laid kp hl ⟨by rw [List.length_nil]; exact Nat.zero_le _, [], n, .nil, e⟩
  · have hlen : N.length = js.length + 1 := by
      have e1 := congrArg List.length S.caps
      rw [List.length_drop, List.length_map] at e1
      have e2 : 0 < N.length := (List.getElem?_eq_some_iff.mp S.hd).1
      omega
    show (none :: capsOf js σ).length = N.length
    unfold capsOf
    rw [List.length_cons, List.length_map, hlen]

theorem ne_succ {b l : Nat} (h : b < l) : b ≠ l + 1 := by omega
theorem ne_self_succ {l : Nat} : l ≠ l + 1 := by omega
/-- the block: from a new list to the end of its loop -/
theorem comp_block {pins : List (Addr × Obj)} {σ : St} {H : Hp} {s : Shared} {it : Addr} {fp : List Addr} {tn : Nat → Heap → Prop} {J : It} {QQ : Hp → Prop} {RR : Value → Addr → Result → Shared → Prop} {E : Value → Shared → Prop}
    (S : CScope fsc sc N0 N js x) (hsc : X.env.scope = fsc) (hN : X.N = N0) (hc : X.calm = true) (I : Inv X pins σ H s) (T : Turn X.prog X.w X.K (.Name x px) J fp it tn) (st : tn 0 s.heap) (hfp : ∀ b ∈ fp, FpOk X pins H b)
    (hf : ∀ C fp pins s H, PF (compCx X N sc C fp pins s H) ifs tt) (he : ∀ C fp pins s H, PE (compCx X N sc C fp pins s H) elt te)
    (q : ∃ W : Nat → Nat → List V → Hp → Prop, (∃ m, W 0 m [] (upd H s.heap.objs.size (.lst []))) ∧ ∀ i m ys H, W i m ys H → H s.heap.objs.size = some (.lst ys) ∧ ((J.stop i H ∧ QQ H) ∨ (J.go i H ∧ ∀ y H', J.yld i H y H' → tt (some y :: capsOf js σ) H' fun b H2 =>
      if b = true then te (some y :: capsOf js σ) H2 fun z H3 => H3 s.heap.objs.size = some (.lst ys) ∧ ys.length < sizeLine ∧ ∃ m', m' < m ∧ W (i + 1) m' (ys ++ [z]) (upd H3 s.heap.objs.size (.lst (ys ++ [z]))) else ∃ m', m' < m ∧ W (i + 1) m' ys H2)))
    (fin : ∀ (C : Addr) (s' : Shared) (H' : Hp) (m : Str → Option Value), s.heap.objs.size ≤ C → s.heap.objs.size ≠ C → s'.heap.Ns C m → s'.os = s.os → AllBare s'.gens → Un (frs X.stack) fp H H' s.heap s'.heap → HOk X.prog X.w H' s'.heap → H' C = none → QQ H' → RR (.ref s.heap.objs.size) C (.ok .next) s') :
    wpAny (model X.prog X.w) X.A (newList []) (fun acc s3 => wpAny (model X.prog X.w) X.A (newFunctionEnv sc X.env.globals (clo X.env sc.names []) [] X.env.qual none .none (some X.env)) (fun cenv s4 =>
      codeAny (model X.prog X.w) X.A (.compStart (.ListComp elt [⟨.Name x px, iter, ifs, 0⟩] sc pos) 0 (.ref it) acc { cenv with scope := relabel sc X.env }) (RR acc cenv.locals) s4) E s3) E s := by
  obtain ⟨W, ⟨m0, w0⟩, turn⟩ := q
  refine wpAny_newObj_type (wpAny_newFunctionEnv S.nocell (by intro y hy; simp at hy) (fun h1 hns hsb => ?_) S.kind)
  dsimp only at hns hsb ⊢
  generalize hL : s.heap.objs.size = l at *
  generalize hP : s.heap.push { cls := .type "list", dict := none, data := .seq ([] : List Value).toArray } = hp at hns hsb ⊢
  have hps : hp.objs.size = l + 1 := by rw [← hP, Heap.size_push, hL]
  have old : ∀ b o, s.heap.get? b = some o → h1.get? b = some o := fun b o e => by
    have lt : b < l := by rw [← hL]; exact Heap.lt_size e
    exact hsb.extBut b o (by rw [hps]; exact ne_succ lt) (Heap.get?_push_of_some _ (hP ▸ Heap.get?_push_of_some _ e))
  have hlst : ∃ n, h1.get? l = some { cls := .type "list", data := .seq #[] n } := by
    refine ⟨0, hsb.extBut _ _ (by rw [hps]; exact ne_self_succ) (Heap.get?_push_of_some _ ?_)⟩
    rw [← hP, ← hL]
    exact Heap.get?_push_size _ rfl
  have hlC : l ≠ hp.objs.size := by rw [hps]; omega
  have obj0 : ∀ b ∈ fp, ∃ o, s.heap.get? b = some o := fun b hb => let ⟨o, e, _⟩ := T.obj 0 _ st b hb; ⟨o, e⟩
  have st1 : tn 0 h1 := T.keep 0 _ _ st fun b _ o e => old b o e
  have loop : ∀ s3 : Shared, s3 = { s with heap := h1, toks := s.toks + ([] : List (Str × Value)).length } →
      codeAny (model X.prog X.w) X.A (.compLoop (.ListComp elt [⟨.Name x px, iter, ifs, 0⟩] sc pos) 0 (.ref it) (.ref l) (compEnvC sc (clo X.env sc.names []) hp.objs.size X.env)) (RR (.ref l) hp.objs.size) s3 := by
    intro s3 e3
    have I0 : Inv (compCx X N sc hp.objs.size fp pins s H) [] (none :: capsOf js σ) (upd H l (.lst [])) s3 := by
      subst e3
      exact comp_inv S hsc hN I hfp obj0 (by omega) (by rw [hps]; omega) hlC old hns hlst rfl rfl
    -- the iterator's records, seen from the block
    have FPY : ∀ {pins' : List (Addr × Obj)} {H' : Hp}, (∀ b ∈ fp, H' b = none) → pins' = [] → ∀ b ∈ fp, FpOk (compCx X N sc hp.objs.size fp pins s H) pins' H' b := fun {pins' H'} hn hp0 b hb => by
      subst hp0
      obtain ⟨f0, f1, f2, f3, f4, f5⟩ := hfp b hb
      obtain ⟨o, e⟩ := obj0 b hb
      refine ⟨hn b hb, ?_, fun z => ?_, .inl hb, fun y c q => ?_, fun p hp' => ?_⟩
      · have : b < l := by rw [← hL]; exact Heap.lt_size e
        show b ≠ hp.objs.size
        rw [hps]; exact ne_succ this
      · exact I0.ok.exfs b hb z
      · exact (I0.ok.exf b hb).2 y c q
      · have hp2 : p ∈ (X.pn ++ pins) ++ [] := hp'
        rw [List.append_nil] at hp2
        exact f5 p hp2
    have fr0 : ∀ b ∈ fp, upd H l (.lst []) b = none := fun b hb => by
      obtain ⟨o, e⟩ := obj0 b hb
      rw [upd_ne (Nat.ne_of_lt (hL ▸ Heap.lt_size e))]
      exact (hfp b hb).1
    refine comp_loop (fun n s' => ∃ i ys σ' H', Inv (compCx X N sc hp.objs.size fp pins s H) [] σ' H' s' ∧ σ'.drop 1 = capsOf js σ ∧ tn i s'.heap ∧ (∀ b ∈ fp, H' b = none) ∧ W i n ys H') ?_ m0 ⟨0, [], _, _, I0, rfl, by subst e3; exact st1, fr0, w0⟩
    rintro n s4 ⟨i, ys, σ4, H4, I4, hσ4, st4, fr4, w4⟩
    obtain ⟨hly, tn4⟩ := turn i n ys H4 w4
    rcases tn4 with ⟨stop, qn⟩ | ⟨go, step⟩
    · refine thn (T.done (compCx X N sc hp.objs.size fp pins s H) rfl rfl rfl hc i [] s4 σ4 H4 _ I4 (FPY fr4 rfl) st4 stop) fun r s5 ⟨hr, I5⟩ => ?_
      subst hr
      obtain ⟨m5, hn5, _⟩ := I5.loc
      exact fin hp.objs.size s5 H4 m5 (by rw [hps]; omega) hlC hn5 I5.os I5.bare I5.base I5.hok I5.free qn
    · refine thn (T.item (compCx X N sc hp.objs.size fp pins s H) rfl rfl rfl hc i [] s4 σ4 H4 _ I4 (FPY fr4 rfl) st4 go) fun r s5 ⟨u, hr, h5⟩ => ?_
      subst hr
      refine thn h5 fun _ s6 ⟨y, H6, I6, r6, y6, st6, fr6⟩ => ?_
      have I6' := I6.pinned (FPY fr6 rfl) (T.obj _ _ st6)
      refine wpAny_assign_Name (store_ok I6' (i := 0) S.nd S.hd (.inl (lookup_relabel_local S.loc)) r6 (fun s7 I7 => ?_) (.inr (lookup_relabel_local S.loc)))
      have hσ7 : σ4.set 0 (some y) = some y :: capsOf js σ := by
        have hl4 : σ4.length = N.length := I4.len
        cases σ4 with
        | nil =>
          have e2 : 0 < N.length := (List.getElem?_eq_some_iff.mp S.hd).1
          rw [List.length_nil] at hl4
          omega
        | cons a r =>
          rw [List.set_cons_zero]
          have hσ4' : r = capsOf js σ := hσ4
          rw [hσ4']
      rw [hσ7] at I7
      have again : ∀ {s9 : Shared} {H9 : Hp} {ys' : List V} {m' : Nat}, Inv (compCx X N sc hp.objs.size fp pins s H) ([] ++ pinsAt fp s6.heap) (some y :: capsOf js σ) H9 s9 → m' < n → W (i + 1) m' ys' H9 →
          ∃ m, m < n ∧ ∃ i ys σ' H', Inv (compCx X N sc hp.objs.size fp pins s H) [] σ' H' s9 ∧ σ'.drop 1 = capsOf js σ ∧ tn i s9.heap ∧ (∀ b ∈ fp, H' b = none) ∧ W i m ys H' := fun {s9 H9 ys' m'} I9 hm w9 => by
        refine ⟨m', hm, i + 1, ys', _, H9, I9.unpinned, rfl, T.keep _ _ _ st6 fun b hb o e => (I9.pin (b, o) (List.mem_append_right _ (List.mem_append_right _ (mem_pinsAt hb e)))).1, fun b hb => ?_, w9⟩
        obtain ⟨o, e, d⟩ := T.obj _ _ st6 b hb
        exact (I9.pin (b, o) (List.mem_append_right _ (List.mem_append_right _ (mem_pinsAt hb e)))).2.1
      refine thn (hf hp.objs.size fp pins s H _ s7 _ H6 _ I7 (step y H6 y6)) fun ok s8 ⟨H8, I8, q8⟩ => ?_
      cases ok with
      | false =>
        rw [if_neg Bool.false_ne_true] at q8 ⊢
        obtain ⟨m', hm, w'⟩ := q8
        exact again I8 hm w'
      | true =>
        rw [if_pos rfl] at q8 ⊢
        refine thn (he hp.objs.size fp pins s H _ s8 _ H8 _ I8 q8) fun v s9 ⟨z, H9, I9, r9, hl9, hz9, m', hm, w'⟩ => ?_
        refine thn (mt_append (X := compCx X N sc hp.objs.size fp pins s H) _ s9 _ H9 (.ref l) [z] (.ref l) [v] (fun x H' => x = .non ∧ H' = upd H9 l (.lst (ys ++ [z]))) I9 rfl (.cons r9 .nil) ⟨l, ys, z, rfl, rfl, hl9, hz9, rfl, rfl⟩) fun _ s10 ⟨_, H10, I10, _, _, e10⟩ => ?_
        subst e10
        exact again I10 hm w'
  exact codeAny_compStart_list (loop _ rfl) (T.self X.A 0 _ _ _ st1 (loop _ rfl))
/-- [elt for x in iter if ..] -/
theorem pe_comp (S : CScope fsc sc N0 N js x) (hsc : X.env.scope = fsc) (hN : X.N = N0) (hc : X.calm = true) (hi : PI X (.Name x px) iter wi)
    (hf : ∀ C fp pins s H, PF (compCx X N sc C fp pins s H) ifs tt) (he : ∀ C fp pins s H, PE (compCx X N sc C fp pins s H) elt te)
    (hs : ∀ x, foldedSetIterable iter X.env x = pure x := by intro _; rfl) : PE X (.ListComp elt [⟨.Name x px, iter, ifs, 0⟩] sc pos) (tComp js wi tt te) := by
  intro pins s σ H Q I h
  rw [eval_ListComp]
  have fre : ∀ y ∈ sc.names, y.2 = .free → ∃ c, X.env.cells.lookup y.1 = some c := fun y hy hk => I.ok.has y.1 (by
    have q := S.frees y hy hk
    rw [← hsc] at q
    exact q)
  refine wpAny_comprehension_free (use := none) rfl hs (closure_clo fre) S.kind S.names (thn (hi pins s σ H _ I h) fun v s1 h1 => thn h1 fun itv s2 h2 => ?_)
  obtain ⟨it, fp, tn, J, H2, e, I2, T, st2, f2, q2⟩ := h2
  subst e
  refine comp_block (QQ := fun H' => Q (.ref s2.heap.objs.size) H') (RR := fun acc C => compPost (model X.prog X.w) X.A X.xe none (EP X pins σ Q) acc C) S hsc hN hc I2 T st2 f2 hf he (q2 s2.heap.objs.size (I2.hok.fresh (Nat.le_refl _))) ?_
  intro C s' H' m hC hlC hn ho hg u hok hfree qq
  refine ⟨m, hn, fun h' hs' => ⟨.ref s2.heap.objs.size, H', ?_, rfl, qq⟩⟩
  have I3 : Inv X pins σ H' s' := I2.call' ho u hok hg fun b hb => ⟨(f2 b hb).2.2.2.1, (f2 b hb).2.1, (f2 b hb).2.2.2.2.1, (f2 b hb).2.2.2.2.2⟩
  have szs : X.s₀.heap.objs.size ≤ C := Nat.le_trans I2.sz hC
  have CL : C ≠ X.env.locals := Nat.ne_of_gt (Nat.lt_of_lt_of_le I2.lt hC)
  exact I3.turned (t' := s'.toks) (it := C) (fun b o hb e => (hs'.2 b hb).trans e) hfree CL (.inr szs) (fun y c e z => by
    obtain ⟨v', o', e', _⟩ := I2.cell y c e
    exact Nat.ne_of_lt (Nat.lt_of_lt_of_le (Heap.lt_size e') hC) z) fun p hp z =>
      Nat.ne_of_lt (Nat.lt_of_lt_of_le (Heap.lt_size (I2.pin p hp).1) hC) z
end
end L2
set_option Elab.async false
set_option linter.all false
set_option maxRecDepth 100000
set_option maxHeartbeats 4000000
namespace L2
open PySem PySem.Spec PyProof.Rows
section
variable {X : Cx} {elt iter : Expr} {ifs : List Expr} {fsc sc : Scope} {N0 N : List Str} {js : List Nat} {x : Str} {px pos : Pos} {wi : TI} {tt : TT} {te : TE}
/-- name = [elt for x in iter if ..] -/
theorem ps_setC {i : Nat} {y : Str} {py spos : Pos} (hNd : X.N.Nodup) (hy : X.N[i]? = some y) (hly : Loc X.env.scope y) (S : CScope fsc sc N0 N js x) (hsc : X.env.scope = fsc) (hN : X.N = N0) (hc : X.calm = true) (hi : PI X (.Name x px) iter wi)
    (hf : ∀ C fp pins s H, PF (compCx X N sc C fp pins s H) ifs tt) (he : ∀ C fp pins s H, PE (compCx X N sc C fp pins s H) elt te)
    (hsw : swapsWith (.ListComp elt [⟨.Name x px, iter, ifs, 0⟩] sc pos) (some (.Name y py)) spos.line X.env = pure true := by rfl)
    (hs : ∀ x, foldedSetIterable iter X.env x = pure x := by intro _; rfl) (hfn : X.fn y = true ∨ X.env.scope.names.lookup y = some .local := by first | exact .inl rfl | exact .inr rfl | assumption) :
    PS X (.Assign [.Name y py] (.ListComp elt [⟨.Name x px, iter, ifs, 0⟩] sc pos) spos) (tAsg (tComp js wi tt te) (gName i)) := by
  intro pins s σ H D I h
  rw [exec_Assign_Name_used _ _ _ _ hsw]
  refine wpAny_bind (wpAny_standAt (wpAny_bind ?_))
  show wpAny _ X.A (do let _ ← comprehension (.ListComp elt [⟨.Name x px, iter, ifs, 0⟩] sc pos) sc X.env _ (newList []) false (eval iter X.env) (some (assign (.Name y py) X.env))) _ _ s
  have fre : ∀ y ∈ sc.names, y.2 = .free → ∃ c, X.env.cells.lookup y.1 = some c := fun y hy hk => I.ok.has y.1 (by
    have q := S.frees y hy hk
    rw [← hsc] at q
    exact q)
  refine wpAny_bind (thn (wpAny_comprehension_free (use := some (assign (.Name y py) X.env)) (Q := fun _ s' => SP X pins D .next s') rfl hs (closure_clo fre) S.kind S.names (thn (hi pins s σ H _ I h) fun v s1 h1 => thn h1 fun itv s2 h2 => ?_)) fun _ s' hq => wpAny_pure (wpAny_pure hq))
  obtain ⟨it, fp, tn, J, H2, e, I2, T, st2, f2, q2⟩ := h2
  subst e
  refine comp_block (QQ := fun H' => D.nx (σ.set i (some (.ref s2.heap.objs.size))) H') (RR := fun acc C => compPost (model X.prog X.w) X.A X.xe (some (assign (.Name y py) X.env)) (fun _ s' => SP X pins D .next s') acc C) S hsc hN hc I2 T st2 f2 hf he (q2 s2.heap.objs.size (I2.hok.fresh (Nat.le_refl _))) ?_
  intro C s' H' m hC hlC hn ho hg u hok hfree qq
  have I3 : Inv X pins σ H' s' := I2.call' ho u hok hg fun b hb => ⟨(f2 b hb).2.2.2.1, (f2 b hb).2.1, (f2 b hb).2.2.2.2.1, (f2 b hb).2.2.2.2.2⟩
  have szs : X.s₀.heap.objs.size ≤ C := Nat.le_trans I2.sz hC
  have CL : C ≠ X.env.locals := Nat.ne_of_gt (Nat.lt_of_lt_of_le I2.lt hC)
  have CC : ∀ z c, X.env.cells.lookup z = some c → c ≠ C := fun z c e q => by
    obtain ⟨v', o', e', _⟩ := I2.cell z c e
    exact Nat.ne_of_lt (Nat.lt_of_lt_of_le (Heap.lt_size e') hC) q
  show wpAny _ X.A (assign (.Name y py) X.env (.ref s2.heap.objs.size)) _ _ _
  refine wpAny_assign_Name (store_ok2 I3 hNd hy hly (v := .ref s2.heap.objs.size) rfl (fun s4 I4 hsb => ?_) hfn)
  obtain ⟨a, sb, ha⟩ := hsb
  have hCa : C ≠ a := by
    rcases ha with z | z
    · rw [z]; exact CL
    · exact (CC y a z).symm
  refine ⟨m, hn.sameBut sb hCa, fun h' hs' => ⟨_, H', ?_, qq⟩⟩
  exact I4.turned (t' := s4.toks) (it := C) (fun b o hb e => (hs'.2 b hb).trans e) hfree CL (.inr szs) CC fun p hp z =>
      Nat.ne_of_lt (Nat.lt_of_lt_of_le (Heap.lt_size (I2.pin p hp).1) hC) z
end
/-! ### enumerate(a list), its pairs taken apart at once -/
def Ite (K : PySem.W.Frag) (a : Addr) : It :=
  ⟨fun i H => ∃ xs x, SqL K H a xs ∧ xs[i]? = some x, fun i H v H' => ∃ t x, H t = none ∧ H' = upd H t (.tup [.int (i : Int), x]) ∧ v = .ref t ∧ ∀ xs, SqL K H a xs → xs[i]? = some x, fun i H => ∃ xs, SqL K H a xs ∧ xs.length ≤ i⟩
theorem turn_enum {P : Program} {w : World} {K : PySem.W.Frag} {es : List Expr} {k : Nat} {tp : Pos} (a e it : Addr) (hne : e ≠ it) :
    Turn P w K (.Tuple es k tp) (Ite K a) [e, it] e (fun i h => (∃ old, IsEnum h e it i old) ∧ h.IsListIter it a i) where
  mem := by simp
  obj := fun i h st b hb => by
    obtain ⟨⟨old, he⟩, o, ho, c, d⟩ := st
    rcases List.mem_cons.mp hb with z | z
    · subst z
      exact ⟨_, he, fun v z => by cases z⟩
    · have z' : b = it := List.mem_singleton.mp z
      subst z'
      exact ⟨o, ho, fun v z => by rw [d] at z; cases z⟩
  keep := fun i h h' st kp => by
    obtain ⟨⟨old, he⟩, hit⟩ := st
    exact ⟨⟨old, kp e (by simp) _ he⟩, hit.at fun o q => kp it (by simp) o q⟩
  item := by
    intro X hP hw hK hc i pins s σ H E I hf st hg
    subst hP hw hK
    obtain ⟨⟨old, he⟩, hit⟩ := st
    obtain ⟨xs, x, hq, hx⟩ := hg
    obtain ⟨its, rv, p, hz⟩ := I.list hq
    obtain ⟨u, hu, ru⟩ := rv.get hx
    obtain ⟨f0, f1, f2, f3, f4, f5⟩ := hf e (by simp)
    obtain ⟨g0, g1, g2, g3, g4, g5⟩ := hf it (by simp)
    refine wpAny_pyNext_enum_item he hit p.isList (x := u) (by simpa using hu) hne fun h1 out hit1 htup hsz kp => ?_
    refine ⟨_, rfl, wpAny_letOwnedTupleGo_enum out fun h2 he2 sb => ?_⟩
    have elt : e < s.heap.objs.size := Heap.lt_size he
    have itl : it < s.heap.objs.size := by obtain ⟨_, q, _⟩ := hit; exact Heap.lt_size q
    have kp2 : ∀ b o, b ≠ e → b ≠ it → s.heap.get? b = some o → h2.get? b = some o := fun b o h1' h2' q => (sb.2 b h1').trans (kp b o h1' h2' q)
    have tup2 : h2.get? s.heap.objs.size = some { cls := .type "tuple", data := .seq #[.int i s.toks, u] } := (sb.2 _ (Nat.ne_of_gt elt)).trans htup
    have Hnew : H s.heap.objs.size = none := I.hok.fresh (Nat.le_refl _)
    have ne1 : ∀ b o, H b = some o → b ≠ e ∧ b ≠ it := fun b o q => ⟨fun z => (by rw [z, f0] at q; cases q), fun z => (by rw [z, g0] at q; cases q)⟩
    have I1 : Inv X pins σ (upd H s.heap.objs.size (.tup [.int (i : Int), x])) { s with heap := h2, toks := s.toks + 1 } := by
      refine I.step (g' := s.gens) (d' := s.drawn) (ch := [e, it]) (fun b hb => ?_) (fun b o _ _ hc q _ => ?_) (fun b o _ _ hc q _ => ?_) (fun b o hc q n => ?_) (fun b o hc q => ?_) (fun b xs q => ?_) (fun b o v q => ?_) (fun b ps q => ?_) (fun m hm => ?_) ?_ I.bare
      · rcases List.mem_cons.mp hb with z | z
        · subst z; exact ⟨f3, f1, f4, f5⟩
        · have z' : b = it := List.mem_singleton.mp z
          subst z'; exact ⟨g3, g1, g4, g5⟩
      · exact kp2 b o (fun z => hc (by simp [z])) (fun z => hc (by simp [z])) q
      · exact ⟨o.slots, kp2 b o (fun z => hc (by simp [z])) (fun z => hc (by simp [z])) q⟩
      · rw [upd_ne (Nat.ne_of_lt (Heap.lt_size q))]; exact n
      · exact ⟨o, kp2 b o (fun z => hc (by simp [z])) (fun z => hc (by simp [z])) q⟩
      · rw [upd_ne (ne_of_none q Hnew)]; exact q
      · rw [upd_ne (ne_of_none q Hnew)]; exact q
      · exact ⟨#[], by rw [upd_ne (ne_of_none q Hnew), q]; simp⟩
      · obtain ⟨o, es', ep, ho, r⟩ := hm
        exact ⟨o, es', ep, kp2 _ o (Ne.symm f1) (Ne.symm g1) ho, r⟩
      · intro b o q
        by_cases hb : b = s.heap.objs.size
        · subst hb
          rw [upd_same] at q
          cases q
          exact ⟨by show 2 ≤ sizeLine; decide, [.int i s.toks, u], .cons ⟨_, rfl⟩ (.cons ru .nil), _, tup2, rfl, 0, rfl⟩
        · rw [upd_ne hb] at q
          refine (I.hok b o q).stay (fun c v hc r => kp2 c v ?_ ?_ r) (fun c r => ?_) (fun c ys r => ?_)
          · rcases hc with z | z
            · rw [z]; exact (ne1 b o q).1
            · exact (ne1 c _ z).1
          · rcases hc with z | z
            · rw [z]; exact (ne1 b o q).2
            · exact (ne1 c _ z).2
          · rw [upd_ne (ne_of_none r Hnew)]; exact r
          · rw [upd_ne (ne_of_none r Hnew)]; exact r
    refine ⟨.ref s.heap.objs.size, _, I1, rfl, ⟨s.heap.objs.size, x, Hnew, rfl, rfl, fun ys hy => by rw [I.list_inj hy hq]; exact hx⟩, ⟨⟨u, ?_⟩, ?_⟩, fun b hb => ?_⟩
    · have := he2
      exact he2
    · exact hit1.at fun o q => (sb.2 it hne.symm).trans q
    · rcases List.mem_cons.mp hb with z | z
      · subst z; rw [upd_ne (Nat.ne_of_lt elt)]; exact f0
      · have z' : b = it := List.mem_singleton.mp z
        subst z'; rw [upd_ne (Nat.ne_of_lt itl)]; exact g0
  done := by
    intro X hP hw hK hc i pins s σ H E I hf st hg
    subst hP hw hK
    obtain ⟨⟨old, he⟩, hit⟩ := st
    obtain ⟨xs, hq, hx⟩ := hg
    obtain ⟨its, rv, p, hz⟩ := I.list hq
    obtain ⟨g0, g1, g2, g3, g4, g5⟩ := hf it (by simp)
    have hl := rv.length
    exact wpAny_pyNext_enum_end (I.ok.hd hc) he hit p.isList (by simp; omega) fun h' eb => ⟨rfl, I.turned (t' := s.toks) (fun b o hb q => eb b o hb q) g0 g1 g3 g4 g5⟩
  self := fun _ _ _ _ _ st h => let ⟨⟨_, he⟩, _⟩ := st; wpAny_pyIter_enum he h
def iEnum (K : PySem.W.Frag) (ta : TA) : TI := fun σ H R => ta σ H fun vs H1 => ∃ a, vs = [.ref a] ∧ (∃ xs, SqL K H1 a xs) ∧ R (Ite K a) H1
theorem pi_enum {X : Cx} {a : Expr} {ta : TA} {es : List Expr} {k : Nat} {tp p pos : Pos} (hg : Gl X "enumerate") (hm : X.mg "enumerate" = none) (ha : PA X [a] ta) (hs : starEach [a] X.env = [(false, eval a X.env)] := by rfl) :
    PI X (.Tuple es k tp) (.Call (.Name "enumerate" p) [a] [] pos) (iEnum X.K ta) := by
  intro pins s σ H R I h
  refine Call_ (ld_blt I hg hm boot_enumerate (PyProof.Rows.callWith_type1 (thn (ha pos pins s σ H _ I h) fun us s1 ⟨vs, H1, I1, r1, q1⟩ => ?_) hs rfl))
  obtain ⟨b, e, ⟨xs, hq⟩, q⟩ := q1
  subst e
  obtain ⟨u, rfl, ru⟩ := r1.one
  obtain rfl : u = Value.ref b := ru
  obtain ⟨its, rv, pl, hz⟩ := I1.list hq
  refine call_enumerate_list pl.isList fun h' he hit hsz kp => ?_
  have I2 : Inv X pins σ H1 { s1 with heap := h' } := I1.kept (t' := s1.toks) kp
  refine wpAny_pyIter_enum he ?_
  refine ⟨s1.heap.objs.size + 1, [s1.heap.objs.size + 1, s1.heap.objs.size], _, _, H1, rfl, I2, turn_enum b _ _ (Nat.succ_ne_self _), ⟨⟨.none, he⟩, hit⟩, fun c hc => ?_, q⟩
  rcases List.mem_cons.mp hc with z | z
  · subst z
    exact I1.fpOk (Nat.le_succ _) (I1.hok.fresh (Nat.le_succ _))
  · have z' : c = s1.heap.objs.size := List.mem_singleton.mp z
    subst z'
    exact I1.fpOk (Nat.le_refl _) (I1.hok.fresh (Nat.le_refl _))
/-- for i, x in enumerate(a list that the body leaves as it is) -/
theorem for_enum {K : PySem.W.Frag} {a : Addr} {xs : List V} {g : TG} {tb : TS} {D : Ends} {σ : St} {H : Hp} (Pv : Nat → St → Hp → Prop) (h0 : Pv 0 σ H) (hl : ∀ i σ H, i ≤ xs.length → Pv i σ H → SqL K H a xs)
    (hs : ∀ i x t σ H, xs[i]? = some x → H t = none → Pv i σ H → g (.ref t) σ (upd H t (.tup [.int (i : Int), x])) fun σ2 H2 => tb { D with nx := Pv (i + 1), ct := Pv (i + 1), bk := D.nx } σ2 H2) (hd : ∀ σ H, Pv xs.length σ H → D.nx σ H) :
    ∃ W : Nat → Nat → St → Hp → Prop, (∃ m, W 0 m σ H) ∧ ∀ i m σ H, W i m σ H →
      ((Ite K a).stop i H ∧ D.nx σ H) ∨ ((Ite K a).go i H ∧ ∃ N : St → Hp → Prop, (∀ σ' H', N σ' H' → ∃ m', m' < m ∧ W (i + 1) m' σ' H') ∧ ∀ x H', (Ite K a).yld i H x H' → g x σ H' fun σ2 H2 => tb { D with nx := N, ct := N, bk := D.nx } σ2 H2) := by
  refine ⟨fun i m σ H => m = xs.length - i ∧ i ≤ xs.length ∧ Pv i σ H, ⟨xs.length, by simp, Nat.zero_le _, h0⟩, ?_⟩
  rintro i m σ H ⟨rfl, hi, p⟩
  have q := hl i σ H hi p
  by_cases hlt : i < xs.length
  · refine .inr ⟨⟨xs, xs[i], q, by simp [hlt]⟩, Pv (i + 1), fun σ' H' p' => ⟨xs.length - (i + 1), by omega, rfl, hlt, p'⟩, fun v H' y => ?_⟩
    obtain ⟨t, x, ht, e1, e2, y⟩ := y
    subst e1 e2
    exact hs i x t σ _ (y xs q) ht p
  · have e : i = xs.length := by omega
    subst e
    exact .inl ⟨⟨xs, q, Nat.le_refl _⟩, hd σ H p⟩
/-! ### isinstance(x, one class) -/
def clsV : V → Option Value
  | .ty n => some (.type n)
  | .ref a => some (.ref a)
  | _ => none
theorem call_isinst {X : Cx} : CallR X (.builtin "isinstance") (fun xs H Q => ∃ x c t cv b, xs = [x, c] ∧ TyOf X.K H x t ∧ clsV c = some cv ∧ PySem.W.kitOne X.K t cv = some b ∧ Q (.bl b) H) := by
  intro pins s σ H xs us Q I r h
  obtain ⟨x, c, t, cv, b, rfl, ty, hc, e, q⟩ := h
  obtain ⟨u, v, rfl, ru, rv⟩ := r.two
  have ev : v = cv := by
    cases c with
    | ty n => cases hc; exact rv
    | ref a => cases hc; exact rv
    | _ => cases hc
  subst ev
  exact isinst_ok I ru ty e fun tk => ⟨.bl b, H, I.tok _, rfl, q⟩
end L2
set_option Elab.async false
set_option linter.all false
set_option maxRecDepth 100000
set_option maxHeartbeats 4000000
namespace L2
open PySem PySem.Spec PyProof.Rows
/-! ### a comprehension of lists whose target is any: kk names of its own ahead of the captured ones -/
structure CScopeK (fsc sc : Scope) (N0 N : List Str) (js : List Nat) (kk : Nat) : Prop where
  kind : sc.kind = .function
  nocell : ∀ y ∈ sc.names, y.2 ≠ .cell
  names : ∀ y ∈ sc.names, y.2 = .local → sc.names.lookup y.1 = some .local
  nd : N.Nodup
  len : N.length = kk + js.length
  frees : ∀ y ∈ sc.names, y.2 = .free → fsc.names.lookup y.1 = some .cell ∨ fsc.names.lookup y.1 = some .free
  caps : N.drop kk = js.map fun j => N0.getD j ""
  capin : ∀ j ∈ js, j < N0.length ∧ sc.names.lookup (N0.getD j "") = some .free
def tCompK (kk : Nat) (js : List Nat) (wi : TI) (g : TG) (tt : TT) (te : TE) : TE := fun σ H Q => wi σ H fun J H1 => ∀ l, H1 l = none → ∃ W : Nat → Nat → List V → Hp → Prop, (∃ m, W 0 m [] (upd H1 l (.lst []))) ∧
  ∀ i m ys H, W i m ys H → H l = some (.lst ys) ∧ ((J.stop i H ∧ Q (.ref l) H) ∨ (J.go i H ∧ ∀ x H', J.yld i H x H' → ∀ σ0 : St, σ0.length = kk + js.length → σ0.drop kk = capsOf js σ → g x σ0 H' fun σ1 H1 => σ1.drop kk = capsOf js σ ∧ tt σ1 H1 fun b H2 =>
    if b = true then te σ1 H2 fun y H3 => H3 l = some (.lst ys) ∧ ys.length < sizeLine ∧ ∃ m', m' < m ∧ W (i + 1) m' (ys ++ [y]) (upd H3 l (.lst (ys ++ [y]))) else ∃ m', m' < m ∧ W (i + 1) m' ys H2))
section
variable {X : Cx} {elt iter tg : Expr} {ifs : List Expr} {fsc sc : Scope} {N0 N : List Str} {js : List Nat} {kk : Nat} {pos : Pos} {wi : TI} {g : TG} {tt : TT} {te : TE}
/-- the block's state at its entry -/
theorem comp_invK {pins : List (Addr × Obj)} {σ : St} {H : Hp} {s s3 : Shared} {l C : Addr} {fp : List Addr} {m : Str → Option Value} (S : CScopeK fsc sc N0 N js kk) (hsc : X.env.scope = fsc) (hN : X.N = N0) (I : Inv X pins σ H s)
    (hfp : ∀ b ∈ fp, FpOk X pins H b) (hob : ∀ b ∈ fp, ∃ o, s.heap.get? b = some o) (hl : s.heap.objs.size ≤ l) (hC : s.heap.objs.size ≤ C) (hlC : l ≠ C)
    (kp : ∀ b o, s.heap.get? b = some o → s3.heap.get? b = some o) (hn : s3.heap.Ns C m) (hlst : ∃ n, s3.heap.get? l = some { cls := .type "list", data := .seq #[] n }) (ho : s3.os = s.os) (hg : s3.gens = s.gens) :
    Inv (compCx X N sc C fp pins s H) [] (List.replicate kk none ++ capsOf js σ) (upd H l (.lst [])) s3 := by
  have fre : ∀ y ∈ sc.names, y.2 = .free → ∃ c, X.env.cells.lookup y.1 = some c := fun y hy hk => I.ok.has y.1 (by
    have q := S.frees y hy hk
    rw [← hsc] at q
    exact q)
  have cget : ∀ y c, (clo X.env sc.names []).lookup y = some c → X.env.cells.lookup y = some c := fun y c e => by
    rcases clo_get fre e with q | q
    · cases q
    · exact q
  have old : ∀ b o, s.heap.get? b = some o → b ≠ C ∧ b ≠ l := fun b o e => ⟨Nat.ne_of_lt (Nat.lt_of_lt_of_le (Heap.lt_size e) hC), Nat.ne_of_lt (Nat.lt_of_lt_of_le (Heap.lt_size e) hl)⟩
  have freshC : H C = none := I.hok.fresh hC
  have freshl : H l = none := I.hok.fresh hl
  refine ⟨⟨I.ok.mod, S.kind, I.ok.glob, I.ok.blt, hC, fun y z c h1 h2 => I.ok.inj y z c (cget y c h1) (cget z c h2), fun y hy => ?_, fun y c h _ => absurd (show false = true from h) Bool.false_ne_true, I.ok.hd, I.ok.frames, .inl rfl, fun b hb => ?_, I.bs, Nat.le_trans I.ok.bsz I.sz, fun b o e hb => ?_, fun b hb hb2 => ?_, I.stack, I.stkFree⟩,
    ho, hg ▸ I.bare, Un.laid kp hl freshl, ⟨m, hn, fun i y v h1 h2 h3 => ?_⟩, fun y c e => ?_, ?_, fun y c e => ?_, fun p hp => ?_, ?_, ?_⟩
  · have hmem : (y, NameKind.free) ∈ sc.names := by
      rcases hy with hy | hy
      · exact relabel_back (.inl rfl) S.nocell hy
      · exact relabel_back (.inr rfl) S.nocell hy
    exact Option.isSome_iff_exists.mp (clo_has hmem)
  · obtain ⟨o, e⟩ := hob b hb
    exact ⟨(old b o e).1, fun y c q => (hfp b hb).2.2.2.2.1 y c (cget y c q)⟩
  · obtain ⟨f0, f1, f2, f3, f4, f5⟩ := hfp b hb
    rcases f3 with z | z
    · exact I.ok.noex b o e z
    · exact absurd (Nat.lt_of_lt_of_le (Heap.lt_size (I.ok.bs b o e).1) z) (Nat.lt_irrefl _)
  · obtain ⟨f0, f1, f2, f3, f4, f5⟩ := hfp b hb
    rcases List.mem_cons.mp (I.stkSub b hb2) with z | z
    · exact f1 z
    · exact f2 z
  · -- the captured names
    by_cases hik : i < kk
    · have h2' : (List.replicate kk (none : Option V) ++ capsOf js σ)[i]? = some (some v) := h2
      rw [List.getElem?_append_left (by rw [List.length_replicate]; exact hik), List.getElem?_replicate, if_pos hik] at h2'
      cases h2'
    · obtain ⟨i, rfl⟩ : ∃ i', i = kk + i' := ⟨i - kk, by omega⟩
      have h2' : (capsOf js σ)[i]? = some (some v) := by
        have h2'' : (List.replicate kk (none : Option V) ++ capsOf js σ)[kk + i]? = some (some v) := h2
        rw [List.getElem?_append_right (by rw [List.length_replicate]; omega), List.length_replicate, Nat.add_sub_cancel_left] at h2''
        exact h2''
      unfold capsOf at h2'
      rw [List.getElem?_map] at h2'
      cases ej : js[i]? with
      | none => rw [ej] at h2'; cases h2'
      | some j =>
        rw [ej] at h2'
        have hσ : σ[j]?.join = some v := Option.some.inj h2'
        have hσ' : σ[j]? = some (some v) := by
          cases q : σ[j]? with
          | none => rw [q] at hσ; cases hσ
          | some o => rw [q] at hσ; cases o with
            | none => cases hσ
            | some v' => cases hσ; rfl
        have hy : y = N0.getD j "" := by
          have h1' : N[kk + i]? = some y := h1
          have := congrArg (fun L => L[i]?) S.caps
          simp only [List.getElem?_drop, List.getElem?_map, ej] at this
          rw [h1'] at this
          exact Option.some.inj this
        obtain ⟨hjl, hjf⟩ := S.capin j (List.mem_of_getElem? ej)
        have hNj : X.N[j]? = some y := by
          rw [hN, hy]
          simp [hjl]
        rw [← hy] at hjf
        have hmem : (y, NameKind.free) ∈ sc.names := PySem.mem_of_lookup hjf
        have hk := S.frees _ hmem rfl
        rw [← hsc] at hk
        obtain ⟨mX, hnX, hlX⟩ := I.loc
        have hvis : Vis X.env.scope y := by
          rcases hk with z | z
          · exact .inr (.inl z)
          · exact .inr (.inr z)
        obtain ⟨u, ru, lk⟩ := hlX j y v hNj hσ' hvis
        refine ⟨u, ru, ?_⟩
        rcases lk with ⟨z, _⟩ | ⟨z, c, ec, ecell⟩
        · have z' : X.env.scope.names.lookup y = some .local := z
          rcases hk with q | q
          · rw [z'] at q; cases q
          · rw [z'] at q; cases q
        · refine .inr ⟨relabel_free hjf, ?_⟩
          obtain ⟨c', ec'⟩ := Option.isSome_iff_exists.mp (clo_has (env := X.env) (acc := []) hmem)
          have := cget y c' ec'
          rw [ec] at this
          cases this
          exact ⟨c, ec', ecell.keeps kp⟩
  · obtain ⟨v, q⟩ := I.cell y c (cget y c e)
    exact ⟨v, q.keeps kp⟩
  · show upd H l (.lst []) C = none
    rw [upd_ne (Ne.symm hlC)]
    exact freshC
  · show upd H l (.lst []) c = none
    obtain ⟨v, o, q, _⟩ := I.cell y c (cget y c e)
    rw [upd_ne (old c o q).2]
    exact I.freeC y c (cget y c e)
  · have hp' : p ∈ X.pn ++ pins := by
      have hp2 : p ∈ (X.pn ++ pins) ++ [] := hp
      rw [List.append_nil] at hp2
      exact hp2
    obtain ⟨e, n, ne, nf, d⟩ := I.pin p hp'
    refine ⟨kp _ _ e, ?_, (old _ _ e).1, fun z => ?_, d⟩
    · rw [upd_ne (old _ _ e).2]; exact n
    · rcases List.mem_cons.mp (I.stkSub p.1 z) with q | q
      · exact ne q
      · exact nf q
  · obtain ⟨n, e⟩ := hlst
    exact I.hok.laid kp hl ⟨by rw [List.length_nil]; exact Nat.zero_le _, [], n, .nil, e⟩
  · show (List.replicate kk none ++ capsOf js σ).length = N.length
    unfold capsOf
    rw [List.length_append, List.length_replicate, List.length_map, S.len]

/-- the block: from a new list to the end of its loop -/
theorem comp_blockK {pins : List (Addr × Obj)} {σ : St} {H : Hp} {s : Shared} {it : Addr} {fp : List Addr} {tn : Nat → Heap → Prop} {J : It} {QQ : Hp → Prop} {RR : Value → Addr → Result → Shared → Prop} {E : Value → Shared → Prop}
    (S : CScopeK fsc sc N0 N js kk) (hsc : X.env.scope = fsc) (hN : X.N = N0) (hc : X.calm = true) (I : Inv X pins σ H s) (T : Turn X.prog X.w X.K tg J fp it tn) (st : tn 0 s.heap) (hfp : ∀ b ∈ fp, FpOk X pins H b)
    (hgt : ∀ C fp pins s H, PG (compCx X N sc C fp pins s H) tg g) (hf : ∀ C fp pins s H, PF (compCx X N sc C fp pins s H) ifs tt) (he : ∀ C fp pins s H, PE (compCx X N sc C fp pins s H) elt te)
    (q : ∃ W : Nat → Nat → List V → Hp → Prop, (∃ m, W 0 m [] (upd H s.heap.objs.size (.lst []))) ∧ ∀ i m ys H, W i m ys H → H s.heap.objs.size = some (.lst ys) ∧ ((J.stop i H ∧ QQ H) ∨ (J.go i H ∧ ∀ y H', J.yld i H y H' → ∀ σ0 : St, σ0.length = kk + js.length → σ0.drop kk = capsOf js σ → g y σ0 H' fun σ1 H1 => σ1.drop kk = capsOf js σ ∧ tt σ1 H1 fun b H2 =>
      if b = true then te σ1 H2 fun z H3 => H3 s.heap.objs.size = some (.lst ys) ∧ ys.length < sizeLine ∧ ∃ m', m' < m ∧ W (i + 1) m' (ys ++ [z]) (upd H3 s.heap.objs.size (.lst (ys ++ [z]))) else ∃ m', m' < m ∧ W (i + 1) m' ys H2)))
    (fin : ∀ (C : Addr) (s' : Shared) (H' : Hp) (m : Str → Option Value), s.heap.objs.size ≤ C → s.heap.objs.size ≠ C → s'.heap.Ns C m → s'.os = s.os → AllBare s'.gens → Un (frs X.stack) fp H H' s.heap s'.heap → HOk X.prog X.w H' s'.heap → H' C = none → QQ H' → RR (.ref s.heap.objs.size) C (.ok .next) s') :
    wpAny (model X.prog X.w) X.A (newList []) (fun acc s3 => wpAny (model X.prog X.w) X.A (newFunctionEnv sc X.env.globals (clo X.env sc.names []) [] X.env.qual none .none (some X.env)) (fun cenv s4 =>
      codeAny (model X.prog X.w) X.A (.compStart (.ListComp elt [⟨tg, iter, ifs, 0⟩] sc pos) 0 (.ref it) acc { cenv with scope := relabel sc X.env }) (RR acc cenv.locals) s4) E s3) E s := by
  obtain ⟨W, ⟨m0, w0⟩, turn⟩ := q
  refine wpAny_newObj_type (wpAny_newFunctionEnv S.nocell (by intro y hy; simp at hy) (fun h1 hns hsb => ?_) S.kind)
  dsimp only at hns hsb ⊢
  generalize hL : s.heap.objs.size = l at *
  generalize hP : s.heap.push { cls := .type "list", dict := none, data := .seq ([] : List Value).toArray } = hp at hns hsb ⊢
  have hps : hp.objs.size = l + 1 := by rw [← hP, Heap.size_push, hL]
  have old : ∀ b o, s.heap.get? b = some o → h1.get? b = some o := fun b o e => by
    have lt : b < l := by rw [← hL]; exact Heap.lt_size e
    exact hsb.extBut b o (by rw [hps]; exact ne_succ lt) (Heap.get?_push_of_some _ (hP ▸ Heap.get?_push_of_some _ e))
  have hlst : ∃ n, h1.get? l = some { cls := .type "list", data := .seq #[] n } := by
    refine ⟨0, hsb.extBut _ _ (by rw [hps]; exact ne_self_succ) (Heap.get?_push_of_some _ ?_)⟩
    rw [← hP, ← hL]
    exact Heap.get?_push_size _ rfl
  have hlC : l ≠ hp.objs.size := by rw [hps]; omega
  have obj0 : ∀ b ∈ fp, ∃ o, s.heap.get? b = some o := fun b hb => let ⟨o, e, _⟩ := T.obj 0 _ st b hb; ⟨o, e⟩
  have st1 : tn 0 h1 := T.keep 0 _ _ st fun b _ o e => old b o e
  have loop : ∀ s3 : Shared, s3 = { s with heap := h1, toks := s.toks + ([] : List (Str × Value)).length } →
      codeAny (model X.prog X.w) X.A (.compLoop (.ListComp elt [⟨tg, iter, ifs, 0⟩] sc pos) 0 (.ref it) (.ref l) (compEnvC sc (clo X.env sc.names []) hp.objs.size X.env)) (RR (.ref l) hp.objs.size) s3 := by
    intro s3 e3
    have I0 : Inv (compCx X N sc hp.objs.size fp pins s H) [] (List.replicate kk none ++ capsOf js σ) (upd H l (.lst [])) s3 := by
      subst e3
      exact comp_invK S hsc hN I hfp obj0 (by omega) (by rw [hps]; omega) hlC old hns hlst rfl rfl
    -- the iterator's records, seen from the block
    have FPY : ∀ {pins' : List (Addr × Obj)} {H' : Hp}, (∀ b ∈ fp, H' b = none) → pins' = [] → ∀ b ∈ fp, FpOk (compCx X N sc hp.objs.size fp pins s H) pins' H' b := fun {pins' H'} hn hp0 b hb => by
      subst hp0
      obtain ⟨f0, f1, f2, f3, f4, f5⟩ := hfp b hb
      obtain ⟨o, e⟩ := obj0 b hb
      refine ⟨hn b hb, ?_, fun z => ?_, .inl hb, fun y c q => ?_, fun p hp' => ?_⟩
      · have : b < l := by rw [← hL]; exact Heap.lt_size e
        show b ≠ hp.objs.size
        rw [hps]; exact ne_succ this
      · exact I0.ok.exfs b hb z
      · exact (I0.ok.exf b hb).2 y c q
      · have hp2 : p ∈ (X.pn ++ pins) ++ [] := hp'
        rw [List.append_nil] at hp2
        exact f5 p hp2
    have fr0 : ∀ b ∈ fp, upd H l (.lst []) b = none := fun b hb => by
      obtain ⟨o, e⟩ := obj0 b hb
      rw [upd_ne (Nat.ne_of_lt (hL ▸ Heap.lt_size e))]
      exact (hfp b hb).1
    refine comp_loop (fun n s' => ∃ i ys σ' H', Inv (compCx X N sc hp.objs.size fp pins s H) [] σ' H' s' ∧ σ'.drop kk = capsOf js σ ∧ tn i s'.heap ∧ (∀ b ∈ fp, H' b = none) ∧ W i n ys H') ?_ m0 ⟨0, [], _, _, I0, by rw [List.drop_append_of_le_length (by rw [List.length_replicate]; exact Nat.le_refl _), List.drop_eq_nil_of_le (by rw [List.length_replicate]; exact Nat.le_refl _)]; rfl, by subst e3; exact st1, fr0, w0⟩
    rintro n s4 ⟨i, ys, σ4, H4, I4, hσ4, st4, fr4, w4⟩
    obtain ⟨hly, tn4⟩ := turn i n ys H4 w4
    rcases tn4 with ⟨stop, qn⟩ | ⟨go, step⟩
    · refine thn (T.done (compCx X N sc hp.objs.size fp pins s H) rfl rfl rfl hc i [] s4 σ4 H4 _ I4 (FPY fr4 rfl) st4 stop) fun r s5 ⟨hr, I5⟩ => ?_
      subst hr
      obtain ⟨m5, hn5, _⟩ := I5.loc
      exact fin hp.objs.size s5 H4 m5 (by rw [hps]; omega) hlC hn5 I5.os I5.bare I5.base I5.hok I5.free qn
    · refine thn (T.item (compCx X N sc hp.objs.size fp pins s H) rfl rfl rfl hc i [] s4 σ4 H4 _ I4 (FPY fr4 rfl) st4 go) fun r s5 ⟨u, hr, h5⟩ => ?_
      subst hr
      refine thn h5 fun _ s6 ⟨y, H6, I6, r6, y6, st6, fr6⟩ => ?_
      have I6' := I6.pinned (FPY fr6 rfl) (T.obj _ _ st6)
      have hl4 : σ4.length = kk + js.length := I4.len.trans S.len
      refine thn (hgt hp.objs.size fp pins s H _ s6 σ4 H6 y u _ I6' r6 (step y H6 y6 σ4 hl4 hσ4)) fun _ s7 ⟨σ7, H7, I7, hσ7, q7⟩ => ?_
      have again : ∀ {s9 : Shared} {H9 : Hp} {ys' : List V} {m' : Nat}, Inv (compCx X N sc hp.objs.size fp pins s H) ([] ++ pinsAt fp s6.heap) σ7 H9 s9 → m' < n → W (i + 1) m' ys' H9 →
          ∃ m, m < n ∧ ∃ i ys σ' H', Inv (compCx X N sc hp.objs.size fp pins s H) [] σ' H' s9 ∧ σ'.drop kk = capsOf js σ ∧ tn i s9.heap ∧ (∀ b ∈ fp, H' b = none) ∧ W i m ys H' := fun {s9 H9 ys' m'} I9 hm w9 => by
        refine ⟨m', hm, i + 1, ys', _, H9, I9.unpinned, hσ7, T.keep _ _ _ st6 fun b hb o e => (I9.pin (b, o) (List.mem_append_right _ (List.mem_append_right _ (mem_pinsAt hb e)))).1, fun b hb => ?_, w9⟩
        obtain ⟨o, e, d⟩ := T.obj _ _ st6 b hb
        exact (I9.pin (b, o) (List.mem_append_right _ (List.mem_append_right _ (mem_pinsAt hb e)))).2.1
      refine thn (hf hp.objs.size fp pins s H _ s7 _ H7 _ I7 q7) fun ok s8 ⟨H8, I8, q8⟩ => ?_
      cases ok with
      | false =>
        rw [if_neg Bool.false_ne_true] at q8 ⊢
        obtain ⟨m', hm, w'⟩ := q8
        exact again I8 hm w'
      | true =>
        rw [if_pos rfl] at q8 ⊢
        refine thn (he hp.objs.size fp pins s H _ s8 _ H8 _ I8 q8) fun v s9 ⟨z, H9, I9, r9, hl9, hz9, m', hm, w'⟩ => ?_
        refine thn (mt_append (X := compCx X N sc hp.objs.size fp pins s H) _ s9 _ H9 (.ref l) [z] (.ref l) [v] (fun x H' => x = .non ∧ H' = upd H9 l (.lst (ys ++ [z]))) I9 rfl (.cons r9 .nil) ⟨l, ys, z, rfl, rfl, hl9, hz9, rfl, rfl⟩) fun _ s10 ⟨_, H10, I10, _, _, e10⟩ => ?_
        subst e10
        exact again I10 hm w'
  exact codeAny_compStart_list (loop _ rfl) (T.self X.A 0 _ _ _ st1 (loop _ rfl))
/-- [elt for (x, y, ..) in iter if ..] -/
theorem pe_compK (S : CScopeK fsc sc N0 N js kk) (hsc : X.env.scope = fsc) (hN : X.N = N0) (hc : X.calm = true) (hi : PI X tg iter wi)
    (hgt : ∀ C fp pins s H, PG (compCx X N sc C fp pins s H) tg g) (hf : ∀ C fp pins s H, PF (compCx X N sc C fp pins s H) ifs tt) (he : ∀ C fp pins s H, PE (compCx X N sc C fp pins s H) elt te)
    (hs : ∀ x, foldedSetIterable iter X.env x = pure x := by intro _; rfl) : PE X (.ListComp elt [⟨tg, iter, ifs, 0⟩] sc pos) (tCompK kk js wi g tt te) := by
  intro pins s σ H Q I h
  rw [eval_ListComp]
  have fre : ∀ y ∈ sc.names, y.2 = .free → ∃ c, X.env.cells.lookup y.1 = some c := fun y hy hk => I.ok.has y.1 (by
    have q := S.frees y hy hk
    rw [← hsc] at q
    exact q)
  refine wpAny_comprehension_free (use := none) rfl hs (closure_clo fre) S.kind S.names (thn (hi pins s σ H _ I h) fun v s1 h1 => thn h1 fun itv s2 h2 => ?_)
  obtain ⟨it, fp, tn, J, H2, e, I2, T, st2, f2, q2⟩ := h2
  subst e
  refine comp_blockK (QQ := fun H' => Q (.ref s2.heap.objs.size) H') (RR := fun acc C => compPost (model X.prog X.w) X.A X.xe none (EP X pins σ Q) acc C) S hsc hN hc I2 T st2 f2 hgt hf he (q2 s2.heap.objs.size (I2.hok.fresh (Nat.le_refl _))) ?_
  intro C s' H' m hC hlC hn ho hg u hok hfree qq
  refine ⟨m, hn, fun h' hs' => ⟨.ref s2.heap.objs.size, H', ?_, rfl, qq⟩⟩
  have I3 : Inv X pins σ H' s' := I2.call' ho u hok hg fun b hb => ⟨(f2 b hb).2.2.2.1, (f2 b hb).2.1, (f2 b hb).2.2.2.2.1, (f2 b hb).2.2.2.2.2⟩
  have szs : X.s₀.heap.objs.size ≤ C := Nat.le_trans I2.sz hC
  have CL : C ≠ X.env.locals := Nat.ne_of_gt (Nat.lt_of_lt_of_le I2.lt hC)
  exact I3.turned (t' := s'.toks) (it := C) (fun b o hb e => (hs'.2 b hb).trans e) hfree CL (.inr szs) (fun y c e z => by
    obtain ⟨v', o', e', _⟩ := I2.cell y c e
    exact Nat.ne_of_lt (Nat.lt_of_lt_of_le (Heap.lt_size e') hC) z) fun p hp z =>
      Nat.ne_of_lt (Nat.lt_of_lt_of_le (Heap.lt_size (I2.pin p hp).1) hC) z
end
theorem pg_tupK {X : Cx} {K' : PySem.W.Frag} {es : List Expr} {k n : Nat} {t : TGs} {pos : Pos} (hK : X.K = K') (hc : X.calm = true) (h : PGs X es t)
    (hn : (assignEach es X.env).length = n := by rfl) (hst : (assignEach es X.env).findIdx? (·.1) = none := by rfl) : PG X (.Tuple es k pos) (gTup K' n t) := hK ▸ pg_tup hc h hn hst
/-- over a list whose items stand for those of rs -/
theorem comp_gh {α : Type} {K : PySem.W.Frag} {a : Addr} {xs : List V} {kk : Nat} {js : List Nat} {g : TG} {tt : TT} {te : TE} {σ : St} {H1 : Hp} {R : Addr → Hp → Prop} (rs : List α) (p : α → Bool) (f : α → V) (hx : SqL K H1 a xs) (hl : rs.length = xs.length) (hn : xs.length ≤ 2000)
    (step : ∀ (j : Nat) (x : V) (r : α) (H2 : Hp) (σ0 : St) (R1 : Hp → Prop) (R2 : VK), xs[j]? = some x → rs[j]? = some r → Same H1 H2 → σ0.length = kk + js.length → σ0.drop kk = capsOf js σ → (p r = false → R1 H2) → (p r = true → R2 (f r) H2) →
      g x σ0 H2 fun σ1 H3 => σ1.drop kk = capsOf js σ ∧ tt σ1 H3 fun b H4 => if b = true then te σ1 H4 R2 else R1 H4)
    (hq : ∀ l, H1 l = none → R l (upd H1 l (.lst ((rs.filter p).map f)))) :
    ∀ l, H1 l = none → ∃ W : Nat → Nat → List V → Hp → Prop, (∃ m, W 0 m [] (upd H1 l (.lst []))) ∧
      ∀ i m ys H, W i m ys H → H l = some (.lst ys) ∧ (((Itl K a).stop i H ∧ R l H) ∨ ((Itl K a).go i H ∧ ∀ x H', (Itl K a).yld i H x H' → ∀ σ0 : St, σ0.length = kk + js.length → σ0.drop kk = capsOf js σ → g x σ0 H' fun σ1 H1 => σ1.drop kk = capsOf js σ ∧ tt σ1 H1 fun b H2 =>
        if b = true then te σ1 H2 fun y H3 => H3 l = some (.lst ys) ∧ ys.length < sizeLine ∧ ∃ m', m' < m ∧ W (i + 1) m' (ys ++ [y]) (upd H3 l (.lst (ys ++ [y]))) else ∃ m', m' < m ∧ W (i + 1) m' ys H2)) := by
  intro l hll
  have sm : ∀ {o : HO}, Same H1 (upd H1 l o) := fun {o} b u e => by rw [upd_ne (ne_of_none e hll)]; exact e
  have s2 : (2000 : Nat) < sizeLine := by decide
  refine ⟨fun i m ys H => m = xs.length - i ∧ i ≤ xs.length ∧ ys = ((rs.take i).filter p).map f ∧ H = upd H1 l (.lst ys), ⟨xs.length, rfl, Nat.zero_le _, by simp, rfl⟩, ?_⟩
  rintro i m ys H ⟨rfl, hi, rfl, rfl⟩
  refine ⟨upd_same, ?_⟩
  have hx2 : SqL K (upd H1 l (.lst (((rs.take i).filter p).map f))) a xs := sm.seq hx
  by_cases hlt : i < xs.length
  · have hxi : xs[i]? = some xs[i] := List.getElem?_eq_getElem hlt
    have hri : rs[i]? = some (rs[i]'(by omega)) := List.getElem?_eq_getElem _
    generalize rs[i]'(by omega) = r at hri
    have htk : rs.take (i + 1) = rs.take i ++ [r] := by rw [List.take_add_one, hri]; rfl
    refine .inr ⟨⟨xs, xs[i], hx2, hxi⟩, fun x H' y σ0 h0 h1 => ?_⟩
    obtain ⟨e1, y⟩ := y
    subst e1
    have ex := y xs hx2
    have hlen : (((rs.take i).filter p).map f).length ≤ i := by
      rw [List.length_map]
      refine Nat.le_trans (List.length_filter_le _ _) ?_
      rw [List.length_take]; omega
    refine step i x r _ σ0 _ _ ex hri sm h0 h1 (fun hp => ?_) (fun hp => ?_)
    · refine ⟨xs.length - (i + 1), by omega, rfl, hlt, ?_, rfl⟩
      rw [htk, List.filter_append, List.map_append]
      simp [hp]
    · refine ⟨upd_same, by omega, xs.length - (i + 1), by omega, rfl, hlt, ?_, by rw [upd_upd]⟩
      rw [htk, List.filter_append, List.map_append]
      simp [hp]
  · have e : i = xs.length := by omega
    subst e
    refine .inl ⟨⟨xs, hx2, Nat.le_refl _⟩, ?_⟩
    rw [List.take_of_length_le (by omega)]
    exact hq l hll
/-- the same, the target a name -/
theorem comp_ghN {α : Type} {K : PySem.W.Frag} {a : Addr} {xs : List V} {js : List Nat} {tt : TT} {te : TE} {σ : St} {H1 : Hp} {R : Addr → Hp → Prop} (rs : List α) (p : α → Bool) (f : α → V) (hx : SqL K H1 a xs) (hl : rs.length = xs.length) (hn : xs.length ≤ 2000)
    (ht : ∀ (j : Nat) (x : V) (r : α) (H2 : Hp) (Q' : Bool → Hp → Prop), xs[j]? = some x → rs[j]? = some r → Same H1 H2 → Q' (p r) H2 → tt (some x :: capsOf js σ) H2 Q')
    (he : ∀ (j : Nat) (x : V) (r : α) (H2 : Hp) (Q' : VK), xs[j]? = some x → rs[j]? = some r → p r = true → Same H1 H2 → Q' (f r) H2 → te (some x :: capsOf js σ) H2 Q')
    (hq : ∀ l, H1 l = none → R l (upd H1 l (.lst ((rs.filter p).map f)))) :
    ∀ l, H1 l = none → ∃ W : Nat → Nat → List V → Hp → Prop, (∃ m, W 0 m [] (upd H1 l (.lst []))) ∧
      ∀ i m ys H, W i m ys H → H l = some (.lst ys) ∧ (((Itl K a).stop i H ∧ R l H) ∨ ((Itl K a).go i H ∧ ∀ x H', (Itl K a).yld i H x H' → tt (some x :: capsOf js σ) H' fun b H2 =>
        if b = true then te (some x :: capsOf js σ) H2 fun y H3 => H3 l = some (.lst ys) ∧ ys.length < sizeLine ∧ ∃ m', m' < m ∧ W (i + 1) m' (ys ++ [y]) (upd H3 l (.lst (ys ++ [y]))) else ∃ m', m' < m ∧ W (i + 1) m' ys H2)) := by
  intro l hll
  have sm : ∀ {o : HO}, Same H1 (upd H1 l o) := fun {o} b u e => by rw [upd_ne (ne_of_none e hll)]; exact e
  have s2 : (2000 : Nat) < sizeLine := by decide
  refine ⟨fun i m ys H => m = xs.length - i ∧ i ≤ xs.length ∧ ys = ((rs.take i).filter p).map f ∧ H = upd H1 l (.lst ys), ⟨xs.length, rfl, Nat.zero_le _, by simp, rfl⟩, ?_⟩
  rintro i m ys H ⟨rfl, hi, rfl, rfl⟩
  refine ⟨upd_same, ?_⟩
  have hx2 : SqL K (upd H1 l (.lst (((rs.take i).filter p).map f))) a xs := sm.seq hx
  by_cases hlt : i < xs.length
  · have hxi : xs[i]? = some xs[i] := List.getElem?_eq_getElem hlt
    have hri : rs[i]? = some (rs[i]'(by omega)) := List.getElem?_eq_getElem _
    generalize rs[i]'(by omega) = r at hri
    have htk : rs.take (i + 1) = rs.take i ++ [r] := by rw [List.take_add_one, hri]; rfl
    refine .inr ⟨⟨xs, xs[i], hx2, hxi⟩, fun x H' y => ?_⟩
    obtain ⟨e1, y⟩ := y
    subst e1
    have ex := y xs hx2
    have hlen : (((rs.take i).filter p).map f).length ≤ i := by
      rw [List.length_map]
      refine Nat.le_trans (List.length_filter_le _ _) ?_
      rw [List.length_take]; omega
    refine ht i x r _ _ ex hri sm ?_
    by_cases hp : p r = true
    · rw [if_pos hp]
      refine he i x r _ _ ex hri hp sm ⟨upd_same, by omega, xs.length - (i + 1), by omega, rfl, hlt, ?_, by rw [upd_upd]⟩
      rw [htk, List.filter_append, List.map_append]
      simp [hp]
    · rw [if_neg hp]
      refine ⟨xs.length - (i + 1), by omega, rfl, hlt, ?_, rfl⟩
      rw [htk, List.filter_append, List.map_append]
      simp [hp]
  · have e : i = xs.length := by omega
    subst e
    refine .inl ⟨⟨xs, hx2, Nat.le_refl _⟩, ?_⟩
    rw [List.take_of_length_le (by omega)]
    exact hq l hll
end L2
set_option Elab.async false
set_option linter.all false
set_option maxRecDepth 100000
set_option maxHeartbeats 4000000
namespace L2
open PySem PySem.Spec PyProof.Rows
/-! ### == of lists and tuples, as deep as they are. inner: items are compared by identity first -/
inductive EqD (K : PySem.W.Frag) (H : Hp) : Bool → Nat → V → V → Bool → Prop where
  | flat {n : Nat} {x y : V} (hx : flatV x = true) (hy : flatV y = true) : EqD K H true n x y (eqV x y)
  | same {n : Nat} {x : V} {a : Addr} (h : x = .ref a) : EqD K H true n x x true
  | refs {n : Nat} {p q : Addr} {b : Bool} (h : p ≠ q) (e : EqD K H false n (.ref p) (.ref q) b) : EqD K H true n (.ref p) (.ref q) b
  | lists {n : Nat} {p q : Addr} {xs ys : List V} (f : Nat → Bool) (hp : SqL K H p xs) (hq : SqL K H q ys) (hl : xs.length = ys.length) (e : ∀ j x y, xs[j]? = some x → ys[j]? = some y → EqD K H true n x y (f j)) :
      EqD K H false (n + 1) (.ref p) (.ref q) ((List.range xs.length).all f)
  | lens {n : Nat} {p q : Addr} {xs ys : List V} (hp : SqL K H p xs) (hq : SqL K H q ys) (hl : xs.length ≠ ys.length) : EqD K H false (n + 1) (.ref p) (.ref q) false
  | tups {n : Nat} {p q : Addr} {xs ys : List V} (f : Nat → Bool) (hp : SqT K H p xs) (hq : SqT K H q ys) (hl : xs.length = ys.length) (e : ∀ j x y, xs[j]? = some x → ys[j]? = some y → EqD K H true n x y (f j)) :
      EqD K H false (n + 1) (.ref p) (.ref q) ((List.range xs.length).all f)
theorem eqd_at {X : Cx} {pins : List (Addr × Obj)} {σ : St} {H : Hp} {s : Shared} (I : Inv X pins σ H s) {i : Bool} {n : Nat} {x y : V} {b : Bool} (e : EqD X.K H i n x y b) : ∀ {A : Around} {u v : Value}, A.units + n ≤ cLine → RelV x u → RelV y v →
    (i = true → SeqAt.EqAt A s u v b) ∧ (i = false → SeqAt.RcAt A s u v b) := by
  induction e with
  | flat hx hy => intro A u v hu ru rv; exact ⟨fun _ => eqAt_V ru rv hx hy, fun z => nomatch z⟩
  | same h =>
    intro A u v hu ru rv
    subst h
    cases ru
    cases rv
    exact ⟨fun _ => SeqAt.EqAt.same _, fun z => nomatch z⟩
  | refs h e ih =>
    intro A u v hu ru rv
    have q := (ih hu ru rv).2 rfl
    cases ru
    cases rv
    exact ⟨fun _ => SeqAt.EqAt.of_refs h q, fun z => nomatch z⟩
  | @lists n p q xs ys f hp hq hl e ih =>
    intro A u v hu ru rv
    cases ru
    cases rv
    obtain ⟨its, r1, pl1, _⟩ := I.list hp
    obtain ⟨its2, r2, pl2, _⟩ := I.list hq
    have l1 := r1.length
    have l2 := r2.length
    refine ⟨(fun z => nomatch z), fun _ => ?_⟩
    have key := SeqAt.RcAt.lists (A := A) (s := s) (e := f) pl1.isList pl2.isList (by simp; omega) (by omega) fun j h1 h2 => ?_
    · rw [List.size_toArray, ← l1] at key
      exact key
    · have h1' : j < xs.length := by simpa [l1] using h1
      have h2' : j < ys.length := by simpa [l2] using h2
      obtain ⟨u1, e1, ru1⟩ := r1.get (List.getElem?_eq_getElem h1')
      obtain ⟨u2, e2, ru2⟩ := r2.get (List.getElem?_eq_getElem h2')
      have q1 : its.toArray[j] = u1 := by
        have := List.getElem?_eq_some_iff.mp e1
        simpa using this.2
      have q2 : its2.toArray[j] = u2 := by
        have := List.getElem?_eq_some_iff.mp e2
        simpa using this.2
      rw [q1, q2]
      exact (ih j _ _ (List.getElem?_eq_getElem h1') (List.getElem?_eq_getElem h2') (A := A.in1) (by show A.units + 1 + n ≤ cLine; omega) ru1 ru2).1 rfl
  | @lens n p q xs ys hp hq hl =>
    intro A u v hu ru rv
    cases ru
    cases rv
    obtain ⟨its, r1, pl1, _⟩ := I.list hp
    obtain ⟨its2, r2, pl2, _⟩ := I.list hq
    have l1 := r1.length
    have l2 := r2.length
    exact ⟨(fun z => nomatch z), fun _ => SeqAt.RcAt.lists_lengths pl1.isList pl2.isList (by simp; omega) (by omega)⟩
  | @tups n p q xs ys f hp hq hl e ih =>
    intro A u v hu ru rv
    cases ru
    cases rv
    obtain ⟨its, r1, pl1, _⟩ := I.tuple hp
    obtain ⟨its2, r2, pl2, _⟩ := I.tuple hq
    have l1 := r1.length
    have l2 := r2.length
    refine ⟨(fun z => nomatch z), fun _ => ?_⟩
    have key := SeqAt.RcAt.tuples (A := A) (s := s) (e := f) pl1 pl2 (by omega) fun j h1 h2 => ?_
    · have e1 : min its.toArray.size its2.toArray.size = xs.length := by simp; omega
      have e2 : (its.toArray.size == its2.toArray.size) = true := by simp; omega
      rw [e1, e2, Bool.and_true] at key
      exact key
    · have h1' : j < xs.length := by simpa [l1] using h1
      have h2' : j < ys.length := by simpa [l2] using h2
      obtain ⟨u1, e1, ru1⟩ := r1.get (List.getElem?_eq_getElem h1')
      obtain ⟨u2, e2, ru2⟩ := r2.get (List.getElem?_eq_getElem h2')
      have q1 : its.toArray[j] = u1 := by
        have := List.getElem?_eq_some_iff.mp e1
        simpa using this.2
      have q2 : its2.toArray[j] = u2 := by
        have := List.getElem?_eq_some_iff.mp e2
        simpa using this.2
      rw [q1, q2]
      exact (ih j _ _ (List.getElem?_eq_getElem h1') (List.getElem?_eq_getElem h2') (A := A.in1) (by show A.units + 1 + n ≤ cLine; omega) ru1 ru2).1 rfl
/-- == of two lists or tuples -/
theorem op_eqD {X : Cx} (hu : X.A.units + 16 ≤ cLine) : OpR X (compareOp .Eq) (fun x y H Q => ∃ n b, n ≤ 16 ∧ EqD X.K H false n x y b ∧ Q (.bl b) H) := by
  intro pins s σ H x y v u Q I rx ry h
  obtain ⟨n, b, hn, e, q⟩ := h
  exact (eqd_at I e (by omega) rx ry).2 rfl X.prog X.w X.xe _ ⟨.bl b, H, I, rfl, q⟩
theorem eqd_ne {X : Cx} {pins : List (Addr × Obj)} {σ : St} {H : Hp} {s : Shared} (I : Inv X pins σ H s) {n : Nat} {x y : V} {b : Bool} (e : EqD X.K H false n x y b) {A : Around} {u v : Value} (hu : A.units + n ≤ cLine) (ru : RelV x u) (rv : RelV y v) :
    SeqAt.RcNeAt A s u v (!b) := by
  cases e with
  | @lists n p q xs ys f hp hq hl e =>
    cases ru
    cases rv
    obtain ⟨its, r1, pl1, _⟩ := I.list hp
    obtain ⟨its2, r2, pl2, _⟩ := I.list hq
    have l1 := r1.length
    have l2 := r2.length
    have key := SeqAt.RcNeAt.lists (A := A) (s := s) (e := f) pl1.isList pl2.isList (by simp; omega) (by omega) fun j h1 h2 => ?_
    · rw [List.size_toArray, ← l1] at key
      exact key
    · have h1' : j < xs.length := by simpa [l1] using h1
      have h2' : j < ys.length := by simpa [l2] using h2
      obtain ⟨u1, e1, ru1⟩ := r1.get (List.getElem?_eq_getElem h1')
      obtain ⟨u2, e2, ru2⟩ := r2.get (List.getElem?_eq_getElem h2')
      have q1 : its.toArray[j] = u1 := by
        have := List.getElem?_eq_some_iff.mp e1
        simpa using this.2
      have q2 : its2.toArray[j] = u2 := by
        have := List.getElem?_eq_some_iff.mp e2
        simpa using this.2
      rw [q1, q2]
      exact (eqd_at I (e j _ _ (List.getElem?_eq_getElem h1') (List.getElem?_eq_getElem h2')) (A := A.in1) (by show A.units + 1 + n ≤ cLine; omega) ru1 ru2).1 rfl
  | @lens n p q xs ys hp hq hl =>
    cases ru
    cases rv
    obtain ⟨its, r1, pl1, _⟩ := I.list hp
    obtain ⟨its2, r2, pl2, _⟩ := I.list hq
    have l1 := r1.length
    have l2 := r2.length
    exact SeqAt.RcNeAt.lists_lengths pl1.isList pl2.isList (by simp; omega) (by omega)
  | @tups n p q xs ys f hp hq hl e =>
    cases ru
    cases rv
    obtain ⟨its, r1, pl1, _⟩ := I.tuple hp
    obtain ⟨its2, r2, pl2, _⟩ := I.tuple hq
    have l1 := r1.length
    have l2 := r2.length
    have key := SeqAt.RcNeAt.tuples (A := A) (s := s) (e := f) pl1 pl2 (by omega) fun j h1 h2 => ?_
    · have e1 : min its.toArray.size its2.toArray.size = xs.length := by simp; omega
      have e2 : (its.toArray.size == its2.toArray.size) = true := by simp; omega
      rw [e1, e2, Bool.and_true] at key
      exact key
    · have h1' : j < xs.length := by simpa [l1] using h1
      have h2' : j < ys.length := by simpa [l2] using h2
      obtain ⟨u1, e1, ru1⟩ := r1.get (List.getElem?_eq_getElem h1')
      obtain ⟨u2, e2, ru2⟩ := r2.get (List.getElem?_eq_getElem h2')
      have q1 : its.toArray[j] = u1 := by
        have := List.getElem?_eq_some_iff.mp e1
        simpa using this.2
      have q2 : its2.toArray[j] = u2 := by
        have := List.getElem?_eq_some_iff.mp e2
        simpa using this.2
      rw [q1, q2]
      exact (eqd_at I (e j _ _ (List.getElem?_eq_getElem h1') (List.getElem?_eq_getElem h2')) (A := A.in1) (by show A.units + 1 + n ≤ cLine; omega) ru1 ru2).1 rfl
theorem op_neD {X : Cx} (hu : X.A.units + 16 ≤ cLine) : OpR X (compareOp .NotEq) (fun x y H Q => ∃ n b, n ≤ 16 ∧ EqD X.K H false n x y b ∧ Q (.bl (!b)) H) := by
  intro pins s σ H x y v u Q I rx ry h
  obtain ⟨n, b, hn, e, q⟩ := h
  exact eqd_ne I e (by omega) rx ry X.prog X.w X.xe _ ⟨.bl (!b), H, I, rfl, q⟩
/-- flat lists -/
theorem all_range_eq {xs ys : List V} (hl : xs.length = ys.length) : ((List.range xs.length).all fun j => eqV (xs.getD j .non) (ys.getD j .non)) = (xs.zip ys).all fun p => eqV p.1 p.2 := by
  induction xs generalizing ys with
  | nil => rfl
  | cons x xs ih =>
    cases ys with
    | nil => simp at hl
    | cons y ys =>
      rw [List.length_cons, List.range_succ_eq_map, List.all_cons, List.all_map, List.zip_cons_cons, List.all_cons]
      have := ih (ys := ys) (by simpa using hl)
      rw [← this]
      rfl
def eqVs (xs ys : List V) : Bool := xs.length == ys.length && (xs.zip ys).all fun p => eqV p.1 p.2
theorem eqd_flat {K : PySem.W.Frag} {H : Hp} {p q : Addr} {xs ys : List V} (hp : SqL K H p xs) (hq : SqL K H q ys) (fx : ∀ x ∈ xs, flatV x = true) (fy : ∀ y ∈ ys, flatV y = true) : EqD K H false 1 (.ref p) (.ref q) (eqVs xs ys) := by
  by_cases hl : xs.length = ys.length
  · have e : eqVs xs ys = (List.range xs.length).all fun j => eqV (xs.getD j .non) (ys.getD j .non) := by
      unfold eqVs
      rw [all_range_eq hl, hl]
      simp
    rw [e]
    refine .lists _ hp hq hl fun j x y hx hy => ?_
    have e1 : xs.getD j .non = x := by rw [List.getD_eq_getElem?_getD, hx]; rfl
    have e2 : ys.getD j .non = y := by rw [List.getD_eq_getElem?_getD, hy]; rfl
    rw [e1, e2]
    exact .flat (fx x (List.mem_of_getElem? hx)) (fy y (List.mem_of_getElem? hy))
  · have e : eqVs xs ys = false := by
      unfold eqVs
      have : (xs.length == ys.length) = false := by simpa using hl
      rw [this]; rfl
    rw [e]
    exact .lens hp hq hl
/-! ### a text's join of a list of texts -/
theorem strs_of : ∀ {zs : List Str} {us : List Value}, Vals (zs.map V.str) us → StrsAre us zs
  | [], _, r => by rw [List.map_nil] at r; cases r; exact .nil
  | z :: zs, _, r => by
    rw [List.map_cons] at r
    cases r with
    | cons h t =>
      obtain ⟨k, rfl⟩ := h
      exact .cons _ _ (strs_of t)
theorem mt_join {X : Cx} : MtR X "str.join" (fun x vs H Q => ∃ sep l zs, x = .str sep ∧ vs = [.ref l] ∧ SqL X.K H l (zs.map V.str) ∧ (zs.map (·.length)).sum + zs.length * sep.length ≤ 16777216 ∧ Q (.str (Txt.join sep zs)) H) := by
  intro pins s σ H x vs v us Q I rx rv h
  obtain ⟨sep, l, zs, rfl, rfl, hl, hz, q⟩ := h
  obtain ⟨t, rfl⟩ := rx
  obtain ⟨u, rfl, ru⟩ := rv.one
  obtain rfl : u = Value.ref l := ru
  obtain ⟨its, r, pl, _⟩ := I.list hl
  exact join_list pl.isList (by simpa using strs_of r) hz fun t' k => ⟨.str _, H, I.tok _, ⟨t', rfl⟩, q⟩
end L2
set_option Elab.async false
set_option linter.all false
set_option maxHeartbeats 4000000
namespace Cut
/-! ### lines as pairs: what is held ahead of all cuts, then (cut, what is held from it on) -/
section
variable {α : Type} [DecidableEq α]
/-- what a told line holds at a place: of the cuts that are not behind it the last one counts -/
def atL : α → List (Int × α) → Int → α
  | v, [], _ => v
  | v, q :: r, p => atL (if q.1 ≤ p then q.2 else v) r p
/-- the cut of q is the last of its like -/
def lastA (q : Int × α) : List (Int × α) → Bool
  | [] => true
  | s :: _ => decide (s.1 ≠ q.1)
/-- the one form -/
def formP : α → List (Int × α) → List (Int × α)
  | _, [] => []
  | v, q :: r => if lastA q r = true ∧ q.2 ≠ v then q :: formP q.2 r else formP v r
def Rise (ps : List (Int × α)) : Prop := ps.Pairwise fun a b => a.1 ≤ b.1
def Strict (ps : List (Int × α)) : Prop := ps.Pairwise fun a b => a.1 < b.1
def Diff : α → List (Int × α) → Prop
  | _, [] => True
  | v, q :: r => q.2 ≠ v ∧ Diff q.2 r
theorem Strict.rise {ps : List (Int × α)} (h : Strict ps) : Rise ps := List.Pairwise.imp (fun h => Int.le_of_lt h) h
theorem atL_low {p : Int} : ∀ {ps : List (Int × α)} {v : α}, (∀ q ∈ ps, p < q.1) → atL v ps p = v
  | [], _, _ => rfl
  | q :: r, v, h => by
    have h1 := h q List.mem_cons_self
    show atL (if q.1 ≤ p then q.2 else v) r p = v
    rw [if_neg (by omega)]
    exact atL_low fun q hq => h q (List.mem_cons_of_mem _ hq)
theorem atL_congr {p p' : Int} : ∀ {ps : List (Int × α)} {v : α}, (∀ q ∈ ps, (q.1 ≤ p ↔ q.1 ≤ p')) → atL v ps p = atL v ps p'
  | [], _, _ => rfl
  | q :: r, v, h => by
    have h1 := h q List.mem_cons_self
    have ih := fun w => @atL_congr p p' r w fun q hq => h q (List.mem_cons_of_mem _ hq)
    show atL (if q.1 ≤ p then q.2 else v) r p = atL (if q.1 ≤ p' then q.2 else v) r p'
    by_cases hc : q.1 ≤ p
    · rw [if_pos hc, if_pos (h1.mp hc)]; exact ih _
    · rw [if_neg hc, if_neg fun z => hc (h1.mpr z)]; exact ih _
theorem atL_append {p : Int} : ∀ {a b : List (Int × α)} {v : α}, atL v (a ++ b) p = atL (atL v a p) b p
  | [], _, _ => rfl
  | q :: r, b, v => by
    show atL (if q.1 ≤ p then q.2 else v) (r ++ b) p = atL (atL (if q.1 ≤ p then q.2 else v) r p) b p
    exact atL_append
theorem form_mem {q : Int × α} : ∀ {ps : List (Int × α)} {v : α}, q ∈ formP v ps → q ∈ ps
  | [], _, h => h
  | s :: r, v, h => by
    unfold formP at h
    split at h
    · rcases List.mem_cons.mp h with e | h
      · rw [e]; exact List.mem_cons_self
      · exact List.mem_cons_of_mem _ (form_mem h)
    · exact List.mem_cons_of_mem _ (form_mem h)
theorem last_lt {q : Int × α} {r : List (Int × α)} (hr : Rise (q :: r)) (hl : lastA q r = true) : ∀ s ∈ r, q.1 < s.1 := by
  intro s hs
  cases r with
  | nil => cases hs
  | cons t r =>
    have h1 : t.1 ≠ q.1 := of_decide_eq_true hl
    have h2 := List.pairwise_cons.mp hr
    have h3 := h2.1 t List.mem_cons_self
    rcases List.mem_cons.mp hs with e | hs
    · rw [e]; omega
    · have h4 := (List.pairwise_cons.mp h2.2).1 s hs
      omega
theorem atL_form {p : Int} : ∀ {ps : List (Int × α)} {v : α}, Rise ps → atL v (formP v ps) p = atL v ps p
  | [], _, _ => rfl
  | q :: r, v, hr => by
    have h2 := List.pairwise_cons.mp hr
    show atL v (if lastA q r = true ∧ q.2 ≠ v then q :: formP q.2 r else formP v r) p = atL (if q.1 ≤ p then q.2 else v) r p
    by_cases hc : lastA q r = true ∧ q.2 ≠ v
    · rw [if_pos hc]
      show atL (if q.1 ≤ p then q.2 else v) (formP q.2 r) p = _
      by_cases hp : q.1 ≤ p
      · rw [if_pos hp]; exact atL_form h2.2
      · rw [if_neg hp, atL_low fun s hs => ?_, atL_low fun s hs => ?_]
        · have := h2.1 s hs; omega
        · have := h2.1 s (form_mem hs); omega
    · rw [if_neg hc, atL_form h2.2]
      by_cases hv : q.2 = v
      · rw [hv]; simp
      · cases r with
        | nil => exact absurd ⟨rfl, hv⟩ hc
        | cons t r =>
          have ht : t.1 = q.1 := by
            by_cases e : t.1 = q.1
            · exact e
            · exact absurd ⟨decide_eq_true e, hv⟩ hc
          show atL (if t.1 ≤ p then t.2 else v) r p = atL (if t.1 ≤ p then t.2 else (if q.1 ≤ p then q.2 else v)) r p
          rw [ht]
          by_cases hp : q.1 ≤ p
          · rw [if_pos hp, if_pos hp]
          · rw [if_neg hp, if_neg hp, if_neg hp]
theorem form_strict : ∀ {ps : List (Int × α)} {v : α}, Rise ps → Strict (formP v ps)
  | [], _, _ => List.Pairwise.nil
  | q :: r, v, hr => by
    have h2 := List.pairwise_cons.mp hr
    unfold formP
    split
    · rename_i hc
      exact List.pairwise_cons.mpr ⟨fun s hs => last_lt hr hc.1 s (form_mem hs), form_strict h2.2⟩
    · exact form_strict h2.2
theorem form_diff : ∀ {ps : List (Int × α)} {v : α}, Diff v (formP v ps)
  | [], _ => trivial
  | q :: r, v => by
    unfold formP
    split
    · rename_i hc
      exact ⟨hc.2, form_diff⟩
    · exact form_diff
/-- two forms that hold the same are the same -/
theorem form_unique : ∀ {a b : List (Int × α)} {v : α}, Strict a → Strict b → Diff v a → Diff v b → (∀ p, atL v a p = atL v b p) → a = b
  | [], [], _, _, _, _, _, _ => rfl
  | [], q :: r, v, _, hb, _, db, h => by
    have h2 := List.pairwise_cons.mp hb
    have e := h q.1
    have e2 : atL v (q :: r) q.1 = q.2 := by
      show atL (if q.1 ≤ q.1 then q.2 else v) r q.1 = q.2
      rw [if_pos (Int.le_refl _)]
      exact atL_low h2.1
    rw [e2] at e
    exact absurd e.symm db.1
  | q :: r, [], v, ha, _, da, _, h => by
    have h2 := List.pairwise_cons.mp ha
    have e := h q.1
    have e2 : atL v (q :: r) q.1 = q.2 := by
      show atL (if q.1 ≤ q.1 then q.2 else v) r q.1 = q.2
      rw [if_pos (Int.le_refl _)]
      exact atL_low h2.1
    rw [e2] at e
    exact absurd e da.1
  | q :: r, s :: t, v, ha, hb, da, db, h => by
    have h2 := List.pairwise_cons.mp ha
    have h3 := List.pairwise_cons.mp hb
    have atq : atL v (q :: r) q.1 = q.2 := by
      show atL (if q.1 ≤ q.1 then q.2 else v) r q.1 = q.2
      rw [if_pos (Int.le_refl _)]
      exact atL_low h2.1
    have ats : atL v (s :: t) s.1 = s.2 := by
      show atL (if s.1 ≤ s.1 then s.2 else v) t s.1 = s.2
      rw [if_pos (Int.le_refl _)]
      exact atL_low h3.1
    have ec : q.1 = s.1 := by
      by_cases h4 : q.1 < s.1
      · have e := h q.1
        rw [atq, atL_low (ps := s :: t) fun z hz => ?_] at e
        · exact absurd e da.1
        · rcases List.mem_cons.mp hz with z1 | z1
          · rw [z1]; exact h4
          · have := h3.1 z z1; omega
      · by_cases h5 : s.1 < q.1
        · have e := h s.1
          rw [ats, atL_low (ps := q :: r) fun z hz => ?_] at e
          · exact absurd e.symm db.1
          · rcases List.mem_cons.mp hz with z1 | z1
            · rw [z1]; exact h5
            · have := h2.1 z z1; omega
        · omega
    have eh : q.2 = s.2 := by
      have e := h q.1
      rw [atq, ec, ats] at e
      exact e
    have eqs : q = s := Prod.ext ec eh
    subst eqs
    have er : r = t := form_unique h2.2 h3.2 da.2 db.2 fun p => by
      by_cases hp : q.1 ≤ p
      · have e : atL (if q.1 ≤ p then q.2 else v) r p = atL (if q.1 ≤ p then q.2 else v) t p := h p
        rw [if_pos hp] at e
        exact e
      · rw [atL_low fun z hz => ?_, atL_low fun z hz => ?_]
        · have := h3.1 z hz; omega
        · have := h2.1 z hz; omega
    rw [er]
/-! ### the same by edges and a function of the places -/
def formE (f : Int → α) : α → List Int → List (Int × α)
  | _, [] => []
  | v, e :: r => if f e ≠ v then (e, f e) :: formE f (f e) r else formE f v r
theorem formE_formP (f : Int → α) : ∀ {es : List Int} {v : α}, es.Pairwise (· < ·) → formE f v es = formP v (es.map fun e => (e, f e))
  | [], _, _ => rfl
  | e :: r, v, h => by
    have h2 := List.pairwise_cons.mp h
    have hl : lastA (e, f e) (r.map fun e => (e, f e)) = true := by
      cases r with
      | nil => rfl
      | cons s r =>
        have := h2.1 s List.mem_cons_self
        exact decide_eq_true (by show s ≠ e; omega)
    show (if f e ≠ v then (e, f e) :: formE f (f e) r else formE f v r) = (if lastA (e, f e) (r.map fun e => (e, f e)) = true ∧ f e ≠ v then (e, f e) :: formP (f e) (r.map fun e => (e, f e)) else formP v (r.map fun e => (e, f e)))
    by_cases hv : f e ≠ v
    · rw [if_pos hv, if_pos ⟨hl, hv⟩, formE_formP f h2.2]
    · rw [if_neg hv, if_neg fun z => hv z.2, formE_formP f h2.2]
theorem atL_steps {f : Int → α} {p : Int} : ∀ {es : List Int} {v : α}, es.Pairwise (· < ·) → ((∀ e ∈ es, p < e) → f p = v) → (∀ e ∈ es, e ≤ p → (∀ e' ∈ es, e' ≤ p → e' ≤ e) → f p = f e) → atL v (es.map fun e => (e, f e)) p = f p
  | [], v, _, h1, _ => (h1 fun _ h => nomatch h).symm
  | e :: r, v, hs, h1, h2 => by
    have hs2 := List.pairwise_cons.mp hs
    show atL (if e ≤ p then f e else v) (r.map fun e => (e, f e)) p = f p
    refine atL_steps hs2.2 (fun hlow => ?_) fun e' he' hle hmax => ?_
    · by_cases hep : e ≤ p
      · rw [if_pos hep]
        refine h2 e List.mem_cons_self hep fun e' he' hle => ?_
        rcases List.mem_cons.mp he' with z | z
        · omega
        · have := hlow e' z; omega
      · rw [if_neg hep]
        refine h1 fun e' he' => ?_
        rcases List.mem_cons.mp he' with z | z
        · omega
        · exact hlow e' z
    · refine h2 e' (List.mem_cons_of_mem _ he') hle fun e'' he'' hle'' => ?_
      rcases List.mem_cons.mp he'' with z | z
      · have := hs2.1 e' he'; omega
      · exact hmax e'' z hle''
/-- a function that changes at the edges alone, brought into form by them -/
theorem formE_at {f : Int → α} {es : List Int} {v : α} (hs : es.Pairwise (· < ·)) (h1 : ∀ p, (∀ e ∈ es, p < e) → f p = v) (h2 : ∀ p, ∀ e ∈ es, e ≤ p → (∀ e' ∈ es, e' ≤ p → e' ≤ e) → f p = f e) (p : Int) : atL v (formE f v es) p = f p := by
  have hr : Rise (es.map fun e => (e, f e)) := by
    unfold Rise
    rw [List.pairwise_map]
    exact List.Pairwise.imp (fun h => Int.le_of_lt h) hs
  rw [formE_formP f hs, atL_form hr]
  exact atL_steps hs (h1 p) (h2 p)
theorem formE_strict {f : Int → α} {es : List Int} {v : α} (hs : es.Pairwise (· < ·)) : Strict (formE f v es) := by
  rw [formE_formP f hs]
  refine form_strict ?_
  unfold Rise
  rw [List.pairwise_map]
  exact List.Pairwise.imp (fun h => Int.le_of_lt h) hs
theorem formE_diff {f : Int → α} {es : List Int} {v : α} (hs : es.Pairwise (· < ·)) : Diff v (formE f v es) := by
  rw [formE_formP f hs]
  exact form_diff
/-- the form by the line's own cuts -/
theorem formE_told {ps : List (Int × α)} {es : List Int} {v : α} (hr : Rise ps) (hs : es.Pairwise (· < ·)) (hm : ∀ e, e ∈ es ↔ e ∈ ps.map (·.1)) : formE (fun e => atL v ps e) v es = formP v ps := by
  refine form_unique (v := v) (formE_strict hs) (form_strict hr) (formE_diff hs) form_diff fun p => ?_
  rw [atL_form hr]
  refine formE_at (f := fun e => atL v ps e) hs (fun p h => ?_) (fun p e he hle hmax => ?_) p
  · exact atL_low fun q hq => h q.1 ((hm q.1).mpr (List.mem_map.mpr ⟨q, hq, rfl⟩))
  · refine atL_congr fun q hq => ⟨fun h => ?_, fun h => by omega⟩
    exact hmax q.1 ((hm q.1).mpr (List.mem_map.mpr ⟨q, hq, rfl⟩)) h
/-! ### the hold by the count of the cuts that are not behind -/
structure UpTo (cs : List Int) (p : Int) (n : Nat) : Prop where
  le : n ≤ cs.length
  lo : ∀ i c, i < n → cs[i]? = some c → c ≤ p
  hi : ∀ i c, n ≤ i → cs[i]? = some c → p < c
theorem UpTo.at : ∀ {ps : List (Int × α)} {p : Int} {n : Nat} {v : α}, UpTo (ps.map (·.1)) p n → (v :: ps.map (·.2))[n]? = some (atL v ps p)
  | ps, p, 0, v, h => by
    have e : atL v ps p = v := atL_low fun q hq => by
      obtain ⟨i, hi, e⟩ := List.mem_iff_getElem.mp hq
      refine h.hi i q.1 (Nat.zero_le _) ?_
      rw [List.getElem?_map, List.getElem?_eq_getElem hi, e]
      rfl
    rw [e]; rfl
  | [], p, n + 1, v, h => by
    have := h.le
    simp at this
  | q :: r, p, n + 1, v, h => by
    have h1 : q.1 ≤ p := h.lo 0 q.1 (Nat.succ_pos _) rfl
    have hu : UpTo (r.map (·.1)) p n := ⟨by have := h.le; simp at this ⊢; omega, fun i c hi e => h.lo (i + 1) c (by omega) (by simpa using e), fun i c hi e => h.hi (i + 1) c (by omega) (by simpa using e)⟩
    have ih := UpTo.at (v := q.2) hu
    have e : atL v (q :: r) p = atL q.2 r p := by
      show atL (if q.1 ≤ p then q.2 else v) r p = _
      rw [if_pos h1]
    rw [e, ← ih]
    rfl
end
end Cut
set_option Elab.async false
set_option linter.all false
set_option maxRecDepth 100000
set_option maxHeartbeats 4000000
namespace Cut
open PySem L2
/-! ### what a line holds: None or a text -/
/-- a value as the written form has it: one to twelve letters -/
def Word (x : Str) : Prop := 1 ≤ x.length ∧ x.length ≤ 12 ∧ ∀ c ∈ x.cps.toList, 97 ≤ c ∧ c ≤ 122
def HV (v : V) : Prop := v = .non ∨ ∃ x, Word x ∧ v = .str x
theorem HV.non : HV .non := .inl rfl
theorem HV.str (x : Str) (h : Word x) : HV (.str x) := .inr ⟨x, h, rfl⟩
theorem HV.flat {v : V} (h : HV v) : flatV v = true := by
  rcases h with e | ⟨x, _, e⟩ <;> subst e <;> rfl
theorem HV.eqV {v u : V} (h : HV v) (h' : HV u) : L2.eqV v u = decide (v = u) := by
  rcases h with e | ⟨x, _, e⟩ <;> subst e <;> rcases h' with e | ⟨y, _, e⟩ <;> subst e
  · rfl
  · simp [L2.eqV]
  · simp [L2.eqV]
  · show (x == y) = _
    rw [Bool.eq_iff_iff]; simp
theorem HV.scal {v u : V} (h : HV v) (h' : HV u) : scal v u = true := by
  rcases h with e | ⟨x, _, e⟩ <;> subst e <;> rcases h' with e | ⟨y, _, e⟩ <;> subst e <;> rfl
/-! ### a def of the text, as its callers see it -/
structure Def (P : Program) (w : World) (K : PySem.W.Frag) (mg : Str → Option Value) (base : Heap) (x : Str) (ps : List Str) (k : Nat) (sp : Sp) : Prop where
  ex : ∃ (f : Addr) (fd : FuncData), mg x = some (.ref f) ∧ PySem.W.keepIn K (.ref f) = true ∧ Binds K fd ps [] ∧ FnOk P w K mg base CX0 k f fd ps sp
theorem pe_callD {X : Cx} {x : Str} {ps : List Str} {k : Nat} {sp : Sp} {p pos : Pos} {e : Expr} {es : List Expr} {t : TA} (D : Def X.prog X.w X.K X.mg X.base x ps k sp) (hr : Room k X.A) (hg : Gl X x) (ha : PA X (e :: es) t)
    (hdb : (x == ("__debug__" : Str)) = false := by decide) (he : starEach (e :: es) X.env = (false, eval e X.env) :: starEach es X.env := by rfl) (hpl : (backTo pos (starEach es X.env)).any (·.1) = false := by rfl) :
    PE X (.Call (.Name x p) (e :: es) [] pos) (tCall sp [] E0 t) := by
  obtain ⟨f, fd, h1, h2, h3, h4⟩ := D.ex
  exact pe_call h4 hr hg h1 h2 h3 .nil pass0 ha hdb he hpl
theorem pe_callD0 {X : Cx} {x : Str} {ps : List Str} {k : Nat} {sp : Sp} {p pos : Pos} (D : Def X.prog X.w X.K X.mg X.base x ps k sp) (hr : Room k X.A) (hg : Gl X x)
    (hdb : (x == ("__debug__" : Str)) = false := by decide) : PE X (.Call (.Name x p) [] [] pos) (tCall sp [] E0 tNil) := by
  obtain ⟨f, fd, h1, h2, h3, h4⟩ := D.ex
  exact pe_call0 h4 hr hg h1 h2 h3 .nil pass0 hdb
/-! ### heaps -/
theorem Same.refl {H : Hp} : Same H H := fun _ _ e => e
theorem Same.upd {H H' : Hp} {p : Addr} {o : HO} (s : Same H H') (h : H p = none) : Same H (upd H' p o) := fun b u e => by
  rw [upd_ne (ne_of_none e h)]
  exact s b u e
theorem Same.new {H : Hp} {p : Addr} {o : HO} (h : H p = none) : Same H (L2.upd H p o) := Same.upd Same.refl h
theorem Same.tup {K : PySem.W.Frag} {H H' : Hp} {a : Addr} {xs : List V} (e : Same H H') (h : SqT K H a xs) : SqT K H' a xs := by
  rcases h with (h | ⟨o, h⟩) | h
  · exact .inl (.inl (e _ _ h))
  · exact .inl (.inr ⟨o, e _ _ h⟩)
  · exact .inr h
/-! ### a Line -/
theorem chne : ¬ (("cuts" : Str) = "holds") := by decide +kernel
theorem hcne : ¬ (("holds" : Str) = "cuts") := by decide +kernel
def flds (a b : Addr) : List (Str × V) := putF "holds" (.ref b) (putF "cuts" (.ref a) [])
theorem flds_cuts (a b : Addr) : (flds a b).lookup ("cuts" : Str) = some (.ref a) := by
  unfold flds
  rw [lookup_putF, if_neg chne, lookup_putF, if_pos rfl]
theorem flds_holds (a b : Addr) : (flds a b).lookup ("holds" : Str) = some (.ref b) := by
  unfold flds
  rw [lookup_putF, if_pos rfl]
abbrev cutsV (ps : List (Int × V)) : List V := ps.map fun q => V.int q.1
abbrev holdsV (v : V) (ps : List (Int × V)) : List V := v :: ps.map (·.2)
/-- a Line stands at p -/
def LineAt (C : Addr) (H : Hp) (p : Addr) (v : V) (ps : List (Int × V)) : Prop :=
  ∃ dx a b, H p = some (.ins C dx (flds a b)) ∧ H a = some (.lst (cutsV ps)) ∧ H b = some (.lst (holdsV v ps))
/-- .. all its objects new since H -/
def LineNew (C : Addr) (H H' : Hp) (p : Addr) (v : V) (ps : List (Int × V)) : Prop :=
  ∃ dx a b, H p = none ∧ H a = none ∧ H b = none ∧ H' p = some (.ins C dx (flds a b)) ∧ H' a = some (.lst (cutsV ps)) ∧ H' b = some (.lst (holdsV v ps))
theorem LineNew.at {C : Addr} {H H' : Hp} {p : Addr} {v : V} {ps : List (Int × V)} (h : LineNew C H H' p v ps) : LineAt C H' p v ps :=
  let ⟨dx, a, b, _, _, _, h1, h2, h3⟩ := h
  ⟨dx, a, b, h1, h2, h3⟩
theorem LineAt.same {C : Addr} {H H' : Hp} {p : Addr} {v : V} {ps : List (Int × V)} (h : LineAt C H p v ps) (s : Same H H') : LineAt C H' p v ps :=
  let ⟨dx, a, b, h1, h2, h3⟩ := h
  ⟨dx, a, b, s _ _ h1, s _ _ h2, s _ _ h3⟩
structure Holds (v : V) (ps : List (Int × V)) : Prop where
  h0 : HV v
  hs : ∀ q ∈ ps, HV q.2
theorem Holds.form {v : V} {ps : List (Int × V)} (h : Holds v ps) : Holds v (formP v ps) := ⟨h.h0, fun q hq => h.hs q (form_mem hq)⟩
theorem Holds.at {v : V} {ps : List (Int × V)} {p : Int} (h : Holds v ps) : HV (atL v ps p) := by
  have all : ∀ (ps : List (Int × V)) (v : V), HV v → (∀ q ∈ ps, HV q.2) → HV (atL v ps p) := by
    intro ps
    induction ps with
    | nil => intro v h _; exact h
    | cons q r ih =>
      intro v h hs
      show HV (atL (if q.1 ≤ p then q.2 else v) r p)
      refine ih _ ?_ fun q hq => hs q (List.mem_cons_of_mem _ hq)
      split
      · exact hs q List.mem_cons_self
      · exact h
  exact all ps v h.h0 h.hs
theorem Holds.flat {v : V} {ps : List (Int × V)} (h : Holds v ps) : ∀ x ∈ holdsV v ps, flatV x = true := fun x hx => by
  rcases List.mem_cons.mp hx with e | hx
  · rw [e]; exact h.h0.flat
  · obtain ⟨q, hq, e⟩ := List.mem_map.mp hx
    rw [← e]; exact (h.hs q hq).flat
theorem cuts_flat {ps : List (Int × V)} : ∀ x ∈ cutsV ps, flatV x = true := fun x hx => by
  obtain ⟨q, hq, e⟩ := List.mem_map.mp hx
  rw [← e]; rfl
theorem form_len {α : Type} [DecidableEq α] : ∀ {ps : List (Int × α)} {v : α}, (formP v ps).length ≤ ps.length
  | [], _ => Nat.le_refl _
  | q :: r, v => by
    unfold formP
    split
    · rw [List.length_cons, List.length_cons]; exact Nat.succ_le_succ form_len
    · rw [List.length_cons]; exact Nat.le_succ_of_le form_len
/-! ### what the walk asks of the text's top -/
structure Txt (K : PySem.W.Frag) (mg : Str → Option Value) (C : Addr) : Prop where
  cl : Cls K C
  nC : NoAttr K C "cuts"
  nH : NoAttr K C "holds"
  mgC : mg "Line" = some (.ref C)
  len : mg "len" = none
  range : mg "range" = none
  enumerate : mg "enumerate" = none
  isinstance : mg "isinstance" = none
  list : mg "list" = none
  tuple : mg "tuple" = none
  dict : mg "dict" = none
  str : mg "str" = none
  int : mg "int" = none
  bool : mg "bool" = none
  set : mg "set" = none
  sorted : mg "sorted" = none
  max : mg "max" = none
  min : mg "min" = none
  reversed : mg "reversed" = none
  ty1 : PySem.W.findIn K (.ref C) "__class__" = some (some (.builtin "object.__class__"))
  ty2 : PySem.W.specialIn K (.builtin "object.__class__") "__get__" = some (some (.builtin "getset_descriptor.__get__"))
  ty3 : PySem.W.takesIn K (.builtin "object.__class__") = some true
  ty4 : PySem.W.mroIn K C (.type "object") = some true
theorem kit_bb {K : PySem.W.Frag} {T T' : String} {b : Bool} (h : (if (Value.type T == Value.type T') = true then some true else if PySem.W.kitMeta T' = true then (fastBuiltinMro T).map (·.contains (.type T')) else none) = some b) :
    PySem.W.kitOne K (.type T) (.type T') = some b := h
theorem kit_NL {K : PySem.W.Frag} : PySem.W.kitOne K (.type "NoneType") (.type "list") = some false := kit_bb (by decide +kernel)
theorem kit_NT {K : PySem.W.Frag} : PySem.W.kitOne K (.type "NoneType") (.type "tuple") = some false := kit_bb (by decide +kernel)
theorem kit_ND {K : PySem.W.Frag} : PySem.W.kitOne K (.type "NoneType") (.type "dict") = some false := kit_bb (by decide +kernel)
theorem kit_NS {K : PySem.W.Frag} : PySem.W.kitOne K (.type "NoneType") (.type "str") = some false := kit_bb (by decide +kernel)
theorem kit_SL {K : PySem.W.Frag} : PySem.W.kitOne K (.type "str") (.type "list") = some false := kit_bb (by decide +kernel)
theorem kit_ST {K : PySem.W.Frag} : PySem.W.kitOne K (.type "str") (.type "tuple") = some false := kit_bb (by decide +kernel)
theorem kit_SD {K : PySem.W.Frag} : PySem.W.kitOne K (.type "str") (.type "dict") = some false := kit_bb (by decide +kernel)
theorem kit_SS {K : PySem.W.Frag} : PySem.W.kitOne K (.type "str") (.type "str") = some true := kit_bb (by decide +kernel)
theorem kit_II {K : PySem.W.Frag} : PySem.W.kitOne K (.type "int") (.type "int") = some true := kit_bb (by decide +kernel)
theorem kit_IB {K : PySem.W.Frag} : PySem.W.kitOne K (.type "int") (.type "bool") = some false := kit_bb (by decide +kernel)
theorem kit_BB {K : PySem.W.Frag} : PySem.W.kitOne K (.type "bool") (.type "bool") = some true := kit_bb (by decide +kernel)
theorem kit_LL {K : PySem.W.Frag} : PySem.W.kitOne K (.type "list") (.type "list") = some true := kit_bb (by decide +kernel)
theorem kit_TT {K : PySem.W.Frag} : PySem.W.kitOne K (.type "tuple") (.type "tuple") = some true := kit_bb (by decide +kernel)
theorem kit_own {K : PySem.W.Frag} {C : Addr} : PySem.W.kitOne K (.ref C) (.ref C) = some true := by
  unfold PySem.W.kitOne
  rw [if_pos (beq_self_eq_true _)]
/-- the type of a hold: no list, no tuple, no dict -/
theorem HV.ty {K : PySem.W.Frag} {H : Hp} {v : V} (h : HV v) : ∃ t, TyOf K H v t ∧ PySem.W.kitOne K t (.type "list") = some false ∧ PySem.W.kitOne K t (.type "tuple") = some false ∧ PySem.W.kitOne K t (.type "dict") = some false ∧
    PySem.W.kitOne K t (.type "str") = some (decide (v ≠ .non)) := by
  rcases h with e | ⟨x, _, e⟩
  · subst e; exact ⟨_, .non, kit_NL, kit_NT, kit_ND, kit_NS⟩
  · subst e; exact ⟨_, .str x, kit_SL, kit_ST, kit_SD, kit_SS⟩
/-! ### the promises -/
def spInit (C : Addr) : Sp := fun vs H Q _ => ∃ (p dx a b : Addr), vs = [.ref p, .ref a, .ref b] ∧ H p = some (.ins C dx []) ∧ Q .non (upd H p (.ins C dx (flds a b)))
def spOwn : Sp := fun vs H Q _ => ∃ v, vs = [v] ∧ HV v ∧ Q v H
def spLineOf (K : PySem.W.Frag) (C : Addr) : Sp := fun vs H Q _ => ∃ (a b : Addr) (v : V) (ps : List (Int × V)), vs = [.ref a, .ref b] ∧ SqL K H a (cutsV ps) ∧ SqL K H b (holdsV v ps) ∧ Holds v ps ∧ ps.length ≤ 1000 ∧
  ∀ (p : Addr) (H' : Hp), Same H H' → LineNew C H H' p v (formP v ps) → Q (.ref p) H'
def spEmpty (C : Addr) : Sp := fun vs H Q _ => vs = [] ∧ ∀ (p : Addr) (H' : Hp), Same H H' → LineNew C H H' p .non [] → Q (.ref p) H'
def spUpTo (C : Addr) : Sp := fun vs H Q _ => ∃ (p : Addr) (x : Int) (v : V) (ps : List (Int × V)), vs = [.ref p, .int x] ∧ LineAt C H p v ps ∧ Rise ps ∧ ps.length ≤ 1000 ∧ ∀ n : Nat, UpTo (ps.map (·.1)) x n → Q (.int (n : Int)) H
def spValueAt (C : Addr) : Sp := fun vs H Q _ => ∃ (p : Addr) (x : Int) (v : V) (ps : List (Int × V)), vs = [.ref p, .int x] ∧ LineAt C H p v ps ∧ Rise ps ∧ Holds v ps ∧ ps.length ≤ 1000 ∧ Q (atL v ps x) H
def spCellAt (K : PySem.W.Frag) : Sp := fun vs H Q _ => ∃ (a : Addr) (ns : List Int) (k : Nat), vs = [.ref a, .int (k : Int)] ∧ SqL K H a (ns.map V.int) ∧ ns.length ≤ 63 ∧ Q (.int (ns.getD k 0)) H
/-- names: None and three texts -/
def Names (K : PySem.W.Frag) (H : Hp) (l : Addr) (ts : List V) : Prop := SqL K H l ts ∧ ts.length = 4 ∧ ∀ t ∈ ts, HV t
def spNames : Sp := fun vs H Q _ => ∃ c : Int, vs = [.int c] ∧ ∀ (l : Addr) (H' : Hp) (t1 t2 t3 : Str), Same H H' → H l = none → H' l = some (.lst [.non, .str t1, .str t2, .str t3]) → Q (.ref l) H'
/-- a told line: a tuple of two lists -/
def ToldAt (K : PySem.W.Frag) (H : Hp) (t : Addr) (v : V) (ps : List (Int × V)) : Prop := ∃ a b, SqT K H t [.ref a, .ref b] ∧ SqL K H a (cutsV ps) ∧ SqL K H b (holdsV v ps)
theorem ToldAt.same {K : PySem.W.Frag} {H H' : Hp} {t : Addr} {v : V} {ps : List (Int × V)} (h : ToldAt K H t v ps) (s : Same H H') : ToldAt K H' t v ps :=
  let ⟨a, b, h1, h2, h3⟩ := h
  ⟨a, b, Same.tup s h1, s.seq h2, s.seq h3⟩
def ToldNew (H H' : Hp) (t : Addr) (v : V) (ps : List (Int × V)) : Prop := ∃ a b, H t = none ∧ H a = none ∧ H b = none ∧ a ≠ b ∧ H' t = some (.tup [.ref a, .ref b]) ∧ H' a = some (.lst (cutsV ps)) ∧ H' b = some (.lst (holdsV v ps))
theorem ToldNew.at {K : PySem.W.Frag} {H H' : Hp} {t : Addr} {v : V} {ps : List (Int × V)} (h : ToldNew H H' t v ps) : ToldAt K H' t v ps :=
  let ⟨a, b, _, _, _, _, h1, h2, h3⟩ := h
  ⟨a, b, SqT.of h1, SqL.of h2, SqL.of h3⟩
def spTold (K : PySem.W.Frag) : Sp := fun vs H Q _ => ∃ (a l : Addr) (ns : List Int) (ts : List V), vs = [.ref a, .ref l] ∧ SqL K H a (ns.map V.int) ∧ ns.length ≤ 63 ∧ Names K H l ts ∧
  ∀ (t : Addr) (H' : Hp) (v : V) (ps : List (Int × V)), Same H H' → ToldNew H H' t v ps → Rise ps → Holds v ps → ps.length = ns.length - 1 → Q (.ref t) H'
def spAt (K : PySem.W.Frag) : Sp := fun vs H Q _ => ∃ (t : Addr) (x : Int) (v : V) (ps : List (Int × V)), vs = [.ref t, .int x] ∧ ToldAt K H t v ps ∧ ps.length ≤ 1000 ∧ Q (atL v ps x) H
/-- law's: a list of at most 63 ints is handed in, True comes out -/
def spLaw (K : PySem.W.Frag) : Sp := fun vs H Q _ => ∃ (a : Addr) (ns : List Int), vs = [.ref a] ∧ SqL K H a (ns.map V.int) ∧ ns.length ≤ 63 ∧ ∀ H', Q (.bl true) H'
def spHeld : Sp := fun vs H Q _ => ∃ v u, vs = [v, u] ∧ HV v ∧ HV u ∧ Q (.bl (decide (v = u))) H
/-! ### reading and, or -/
theorem orV {c : Bool} {tb : TE} {σ : St} {H : Hp} {Q : VK} (d : Bool) (hb : c = false → ∀ Q : VK, Q (.bl d) H → tb σ H Q) (h : Q (.bl (c || d)) H) : if c = true then Q (.bl true) H else tb σ H Q := by
  cases c with
  | true => rw [if_pos rfl]; exact h
  | false => rw [if_neg Bool.false_ne_true]; exact hb rfl Q h
theorem andV {c : Bool} {tb : TE} {σ : St} {H : Hp} {Q : VK} (d : Bool) (hb : c = true → ∀ Q : VK, Q (.bl d) H → tb σ H Q) (h : Q (.bl (c && d)) H) : if c = true then tb σ H Q else Q (.bl false) H := by
  cases c with
  | true => rw [if_pos rfl]; exact hb rfl Q h
  | false => rw [if_neg Bool.false_ne_true]; exact h
theorem andT {c : Bool} {u : TT} {σ : St} {H : Hp} {Q : Bool → Hp → Prop} (d : Bool) (hb : c = true → ∀ Q : Bool → Hp → Prop, Q d H → u σ H Q) (h : Q (c && d) H) : if c = true then u σ H Q else Q false H := by
  cases c with
  | true => rw [if_pos rfl]; exact hb rfl Q h
  | false => rw [if_neg Bool.false_ne_true]; exact h
theorem orT {c : Bool} {u : TT} {σ : St} {H : Hp} {Q : Bool → Hp → Prop} (d : Bool) (hb : c = false → ∀ Q : Bool → Hp → Prop, Q d H → u σ H Q) (h : Q (c || d) H) : if c = true then Q true H else u σ H Q := by
  cases c with
  | true => rw [if_pos rfl]; exact h
  | false => rw [if_neg Bool.false_ne_true]; exact hb rfl Q h
/-! ### the last hold -/
def lastH (v : V) (kp : List (Int × V)) : V := (kp.getLast?.map (·.2)).getD v
theorem lastH_snoc (v : V) (kp : List (Int × V)) (q : Int × V) : lastH v (kp ++ [q]) = q.2 := by
  unfold lastH
  rw [List.getLast?_append]
  rfl
theorem atI_lastH (v : V) (kp : List (Int × V)) : atI (holdsV v kp) (-1) = some (lastH v kp) := by
  rcases List.eq_nil_or_concat kp with e | ⟨r, q, e⟩
  · subst e; exact atI_last [] v
  · subst e
    rw [List.concat_eq_append, lastH_snoc]
    have e2 : holdsV v (r ++ [q]) = (v :: r.map (·.2)) ++ [q.2] := by
      show v :: (r ++ [q]).map (·.2) = _
      rw [List.map_append]; rfl
    rw [e2]
    exact atI_last _ _
theorem lastH_hv {v : V} {kp : List (Int × V)} (h : Holds v kp) : HV (lastH v kp) := by
  unfold lastH
  cases e : kp.getLast? with
  | none => exact h.h0
  | some q => exact h.hs q (List.mem_of_getLast? e)
theorem small {n : Nat} (h : n ≤ 2000) : n < sizeLine := Nat.lt_of_le_of_lt h (by decide)
theorem smallL {n : Nat} (h : n ≤ 2000) : n ≤ sizeLine := Nat.le_of_lt (small h)
theorem atN {α : Type} {xs : List α} {i : Int} {j : Nat} {v : α} (e : i = (j : Int)) (h : xs[j]? = some v) : atI xs i = some v := by
  rw [e]; exact atI_nat h
theorem LineNew.from {C : Addr} {H H1 H' : Hp} {p : Addr} {v : V} {ps : List (Int × V)} (s : Same H H1) (h : LineNew C H1 H' p v ps) : LineNew C H H' p v ps :=
  let ⟨dx, a, b, n1, n2, n3, h1, h2, h3⟩ := h
  ⟨dx, a, b, s.free n1, s.free n2, s.free n3, h1, h2, h3⟩
theorem ToldNew.from {H H1 H' : Hp} {t : Addr} {v : V} {ps : List (Int × V)} (s : Same H H1) (h : ToldNew H1 H' t v ps) : ToldNew H H' t v ps :=
  let ⟨a, b, n1, n2, n3, h0, h1, h2, h3⟩ := h
  ⟨a, b, s.free n1, s.free n2, s.free n3, h0, h1, h2, h3⟩
theorem Same.set {H H' : Hp} {p : Addr} {o : HO} (s : Same H H') (h : H p = none) : Same H (L2.upd H' p o) := Same.upd s h
/-! ### comprehensions whose elements touch no object -/
theorem comp_rng {js : List Nat} {tt : TT} {te : TE} {σ : St} {H1 : Hp} {R : Addr → Hp → Prop} {lo : Int} {n : Nat} (g : Nat → V) (hn : n ≤ 2000)
    (ht : ∀ i H2 (Q' : Bool → Hp → Prop), i < n → Same H1 H2 → Q' true H2 → tt (some (.int (lo + i)) :: capsOf js σ) H2 Q')
    (he : ∀ i H2 (Q' : VK), i < n → Same H1 H2 → Q' (g i) H2 → te (some (.int (lo + i)) :: capsOf js σ) H2 Q')
    (hq : ∀ l, H1 l = none → R l (upd H1 l (.lst ((List.range n).map g)))) :
    ∀ l, H1 l = none → ∃ W : Nat → Nat → List V → Hp → Prop, (∃ m, W 0 m [] (upd H1 l (.lst []))) ∧
      ∀ i m ys H, W i m ys H → H l = some (.lst ys) ∧ (((Itr lo n).stop i H ∧ R l H) ∨ ((Itr lo n).go i H ∧ ∀ x H', (Itr lo n).yld i H x H' → tt (some x :: capsOf js σ) H' fun b H2 =>
        if b = true then te (some x :: capsOf js σ) H2 fun y H3 => H3 l = some (.lst ys) ∧ ys.length < sizeLine ∧ ∃ m', m' < m ∧ W (i + 1) m' (ys ++ [y]) (upd H3 l (.lst (ys ++ [y]))) else ∃ m', m' < m ∧ W (i + 1) m' ys H2)) := by
  intro l hl
  refine ⟨fun i m ys H => m = n - i ∧ i ≤ n ∧ ys = (List.range i).map g ∧ H = upd H1 l (.lst ys), ⟨n, rfl, Nat.zero_le _, rfl, rfl⟩, ?_⟩
  rintro i m ys H ⟨rfl, hi, rfl, rfl⟩
  refine ⟨upd_same, ?_⟩
  by_cases hlt : i < n
  · refine .inr ⟨hlt, fun x H' y => ?_⟩
    obtain ⟨e1, e2⟩ := y
    subst e1 e2
    refine ht i _ _ hlt (Same.new hl) (iteT (he i _ _ hlt (Same.new hl) ⟨upd_same, small (by rw [List.length_map, List.length_range]; omega), n - (i + 1), by omega, rfl, hlt, ?_, ?_⟩))
    · rw [List.range_succ, List.map_append]; rfl
    · rw [upd_upd]
  · have e : i = n := by omega
    subst e
    exact .inl ⟨Nat.le_refl _, hq l hl⟩
theorem comp_lst {K : PySem.W.Frag} {a : Addr} {xs : List V} {js : List Nat} {tt : TT} {te : TE} {σ : St} {H1 : Hp} {R : Addr → Hp → Prop} (p : V → Bool) (g : V → V) (hx : SqL K H1 a xs) (hn : xs.length ≤ 2000)
    (ht : ∀ x H2 (Q' : Bool → Hp → Prop), x ∈ xs → Same H1 H2 → Q' (p x) H2 → tt (some x :: capsOf js σ) H2 Q')
    (he : ∀ x H2 (Q' : VK), x ∈ xs → p x = true → Same H1 H2 → Q' (g x) H2 → te (some x :: capsOf js σ) H2 Q')
    (hq : ∀ l, H1 l = none → R l (upd H1 l (.lst ((xs.filter p).map g)))) :
    ∀ l, H1 l = none → ∃ W : Nat → Nat → List V → Hp → Prop, (∃ m, W 0 m [] (upd H1 l (.lst []))) ∧
      ∀ i m ys H, W i m ys H → H l = some (.lst ys) ∧ (((Itl K a).stop i H ∧ R l H) ∨ ((Itl K a).go i H ∧ ∀ x H', (Itl K a).yld i H x H' → tt (some x :: capsOf js σ) H' fun b H2 =>
        if b = true then te (some x :: capsOf js σ) H2 fun y H3 => H3 l = some (.lst ys) ∧ ys.length < sizeLine ∧ ∃ m', m' < m ∧ W (i + 1) m' (ys ++ [y]) (upd H3 l (.lst (ys ++ [y]))) else ∃ m', m' < m ∧ W (i + 1) m' ys H2)) := by
  intro l hl
  refine ⟨fun i m ys H => m = xs.length - i ∧ i ≤ xs.length ∧ ys = ((xs.take i).filter p).map g ∧ H = upd H1 l (.lst ys), ⟨xs.length, rfl, Nat.zero_le _, by simp, rfl⟩, ?_⟩
  rintro i m ys H ⟨rfl, hi, rfl, rfl⟩
  refine ⟨upd_same, ?_⟩
  have hx2 : SqL K (upd H1 l (.lst (((xs.take i).filter p).map g))) a xs := (Same.new hl).seq hx
  by_cases hlt : i < xs.length
  · have hxi : xs[i]? = some xs[i] := List.getElem?_eq_getElem hlt
    have htk : xs.take (i + 1) = xs.take i ++ [xs[i]] := by rw [List.take_add_one, hxi]; rfl
    refine .inr ⟨⟨xs, xs[i], hx2, hxi⟩, fun x H' y => ?_⟩
    obtain ⟨e1, y⟩ := y
    subst e1
    have ex := y xs hx2
    rw [hxi] at ex
    obtain rfl : xs[i] = x := Option.some.inj ex
    have hm : xs[i] ∈ xs := List.getElem_mem hlt
    refine ht _ _ _ hm (Same.new hl) ?_
    have hlen : (((xs.take i).filter p).map g).length ≤ i := by
      rw [List.length_map]
      refine Nat.le_trans (List.length_filter_le _ _) ?_
      rw [List.length_take]; omega
    by_cases hp : p xs[i] = true
    · rw [if_pos hp]
      refine he _ _ _ hm hp (Same.new hl) ⟨upd_same, small (by omega), xs.length - (i + 1), by omega, rfl, hlt, ?_, by rw [upd_upd]⟩
      rw [htk, List.filter_append, List.map_append]
      simp [hp]
    · rw [if_neg hp]
      refine ⟨xs.length - (i + 1), by omega, rfl, hlt, ?_, rfl⟩
      rw [htk, List.filter_append, List.map_append]
      simp [hp]
  · have e : i = xs.length := by omega
    subst e
    refine .inl ⟨⟨xs, hx2, Nat.le_refl _⟩, ?_⟩
    rw [List.take_of_length_le (Nat.le_refl _)]
    exact hq l hl
theorem comp_map {K : PySem.W.Frag} {a : Addr} {xs : List V} {js : List Nat} {te : TE} {σ : St} {H1 : Hp} {R : Addr → Hp → Prop} (g : V → V) (hx : SqL K H1 a xs) (hn : xs.length ≤ 2000)
    (he : ∀ x H2 (Q' : VK), x ∈ xs → Same H1 H2 → Q' (g x) H2 → te (some x :: capsOf js σ) H2 Q')
    (hq : ∀ l, H1 l = none → R l (upd H1 l (.lst (xs.map g)))) :
    ∀ l, H1 l = none → ∃ W : Nat → Nat → List V → Hp → Prop, (∃ m, W 0 m [] (upd H1 l (.lst []))) ∧
      ∀ i m ys H, W i m ys H → H l = some (.lst ys) ∧ (((Itl K a).stop i H ∧ R l H) ∨ ((Itl K a).go i H ∧ ∀ x H', (Itl K a).yld i H x H' → tAll (some x :: capsOf js σ) H' fun b H2 =>
        if b = true then te (some x :: capsOf js σ) H2 fun y H3 => H3 l = some (.lst ys) ∧ ys.length < sizeLine ∧ ∃ m', m' < m ∧ W (i + 1) m' (ys ++ [y]) (upd H3 l (.lst (ys ++ [y]))) else ∃ m', m' < m ∧ W (i + 1) m' ys H2)) :=
  comp_lst (fun _ => true) g hx hn (fun _ _ _ _ _ q => q) (fun x H2 Q' hm _ s q => he x H2 Q' hm s q) fun l hl => by
    have e : xs.filter (fun _ => true) = xs := List.filter_eq_self.mpr fun _ _ => rfl
    rw [e]; exact hq l hl
/-! ### slices of the script -/
theorem cut_from (xs : List V) (k : Nat) : cutV xs (some (k : Int)) none = xs.drop k := by
  unfold cutV
  rw [HT.sIx_nat, HT.sIx_none]
  by_cases h : k ≤ xs.length
  · rw [Nat.min_eq_left h]
    exact List.take_of_length_le (by rw [List.length_drop]; exact Nat.le_refl _)
  · have e : xs.drop k = [] := List.drop_eq_nil_of_le (by omega)
    rw [Nat.min_eq_right (by omega), Nat.sub_self, e]; simp
theorem cut_fromto (xs : List V) (k m : Nat) : cutV xs (some (k : Int)) (some (m : Int)) = (xs.drop k).take (m - k) := by
  unfold cutV
  rw [HT.sIx_nat, HT.sIx_nat]
  by_cases h : k ≤ xs.length
  · rw [Nat.min_eq_left h]
    by_cases h2 : m ≤ xs.length
    · rw [Nat.min_eq_left h2]
    · rw [Nat.min_eq_right (by omega), List.take_of_length_le (by rw [List.length_drop]; exact Nat.le_refl _), List.take_of_length_le (by rw [List.length_drop]; omega)]
  · have e : xs.drop k = [] := List.drop_eq_nil_of_le (by omega)
    have e2 : min k xs.length = xs.length := Nat.min_eq_right (by omega)
    rw [e2, e, List.drop_eq_nil_of_le (Nat.le_refl _)]; simp
theorem cut_to (xs : List V) (m : Nat) : cutV xs none (some (m : Int)) = xs.take m := by
  unfold cutV
  rw [HT.sIx_nat, HT.sIx_none, Nat.sub_zero, List.drop_zero]
  by_cases h2 : m ≤ xs.length
  · rw [Nat.min_eq_left h2]
  · rw [Nat.min_eq_right (by omega), List.take_of_length_le (Nat.le_refl _), List.take_of_length_le (by omega)]
/-! ### texts and tables of the law's own -/
theorem join_len (sep : Str) : ∀ ts : List Str, (PySem.Txt.join sep ts).length ≤ (ts.map (·.length)).sum + ts.length * sep.length := by
  have all : ∀ ts : List Str, (Str.join sep ts).length ≤ (ts.map (·.length)).sum + ts.length * sep.length := by
    intro ts
    induction ts with
    | nil => exact Nat.zero_le _
    | cons x r ih =>
      cases r with
      | nil =>
        show x.length ≤ _
        simp only [List.map_cons, List.map_nil, List.sum_cons, List.sum_nil, List.length_cons, List.length_nil]
        omega
      | cons y r =>
        have e : Str.join sep (x :: y :: r) = x ++ sep ++ Str.join sep (y :: r) := rfl
        rw [e, Str.length_append, Str.length_append]
        simp only [List.map_cons, List.sum_cons, List.length_cons] at ih ⊢
        have e2 : (r.length + 1 + 1) * sep.length = (r.length + 1) * sep.length + sep.length := by rw [Nat.succ_mul]
        omega
  intro ts
  exact Nat.le_trans (Nat.le_of_eq (congrArg Str.length (PySem.StrLaws.glued_eq_join sep ts))) (all ts)
theorem letter_at {i : Int} (h0 : 0 ≤ i) (h1 : i < 26) : ∃ c, atI ("abcdefghijklmnopqrstuvwxyz" : Str).cps.toList i = some c := by
  have hl : ("abcdefghijklmnopqrstuvwxyz" : Str).cps.toList.length = 26 := by decide +kernel
  have hj : i.toNat < ("abcdefghijklmnopqrstuvwxyz" : Str).cps.toList.length := by rw [hl]; omega
  exact ⟨_, atN (j := i.toNat) (by omega) (List.getElem?_eq_getElem hj)⟩
theorem letters_len : ("abcdefghijklmnopqrstuvwxyz" : Str).length ≤ sizeLine := by decide +kernel
theorem in_list {ts : List V} {i : Int} (h0 : 0 ≤ i) (h1 : i < (ts.length : Int)) : ∃ v, v ∈ ts ∧ atI ts i = some v := by
  have hj : i.toNat < ts.length := by omega
  exact ⟨ts[i.toNat], List.getElem_mem hj, atN (j := i.toNat) (by omega) (List.getElem?_eq_getElem hj)⟩
theorem step_at {i : Int} (h0 : 0 ≤ i) (h1 : i < 6) : ∃ d : Int, 0 ≤ d ∧ atI [V.int 0, V.int 1, V.int 1, V.int 2, V.int 5, V.int ((10 : Int) ^ (25 : Int).toNat)] i = some (V.int d) := by
  have h : i = 0 ∨ i = 1 ∨ i = 2 ∨ i = 3 ∨ i = 4 ∨ i = 5 := by omega
  rcases h with e | e | e | e | e | e <;> subst e
  · exact ⟨0, by decide, rfl⟩
  · exact ⟨1, by decide, rfl⟩
  · exact ⟨1, by decide, rfl⟩
  · exact ⟨2, by decide, rfl⟩
  · exact ⟨5, by decide, rfl⟩
  · exact ⟨_, by decide, rfl⟩
/-! ### tests that are known, ways that join, room -/
theorem iteN {c A B : Prop} [Decidable c] (h : ¬ c) (hb : B) : if c then A else B := by
  rw [if_neg h]
  exact hb
theorem iteP {c A B : Prop} [Decidable c] (h : c) (ha : A) : if c then A else B := by
  rw [if_pos h]
  exact ha
theorem ps_imp {X : Cx} {st : Stmt} {t t' : TS} (h : PS X st t) (hi : ∀ D σ H, t' D σ H → t D σ H) : PS X st t' := fun pins s σ H D I q => h pins s σ H D I (hi D σ H q)
theorem hu16 {A : Around} {k : Nat} (hr : Room k A) : A.units + 16 ≤ cLine := by have := hr.units; omega
end Cut
set_option Elab.async false
set_option linter.all false
set_option maxHeartbeats 4000000
namespace Cut
section
variable {α : Type} [DecidableEq α]
/-! ### deeds on told lines: the pairs that a deed makes, and what they hold -/
theorem atL_map {f : Int → Int} {x y : Int} : ∀ {ps : List (Int × α)} {v : α}, (∀ q ∈ ps, (f q.1 ≤ x ↔ q.1 ≤ y)) → atL v (ps.map fun q => (f q.1, q.2)) x = atL v ps y
  | [], _, _ => rfl
  | q :: r, v, h => by
    have h1 := h q List.mem_cons_self
    have ih := fun w => @atL_map f x y r w fun q hq => h q (List.mem_cons_of_mem _ hq)
    show atL (if f q.1 ≤ x then q.2 else v) (r.map fun q => (f q.1, q.2)) x = atL (if q.1 ≤ y then q.2 else v) r y
    by_cases hc : q.1 ≤ y
    · rw [if_pos hc, if_pos (h1.mpr hc)]; exact ih _
    · rw [if_neg hc, if_neg fun z => hc (h1.mp z)]; exact ih _
theorem atL_cons (v : α) (q : Int × α) (r : List (Int × α)) (x : Int) : atL v (q :: r) x = atL (if q.1 ≤ x then q.2 else v) r x := rfl
theorem UpTo.take {ps : List (Int × α)} {p : Int} {n : Nat} (h : UpTo (ps.map (·.1)) p n) : ∀ q ∈ ps.take n, q.1 ≤ p := fun q hq => by
  obtain ⟨i, hi, e⟩ := List.mem_iff_getElem.mp hq
  rw [List.length_take] at hi
  rw [List.getElem_take] at e
  refine h.lo i q.1 (by omega) ?_
  rw [List.getElem?_map, List.getElem?_eq_getElem (by omega), e]
  rfl
theorem UpTo.drop {ps : List (Int × α)} {p : Int} {n : Nat} (h : UpTo (ps.map (·.1)) p n) : ∀ q ∈ ps.drop n, p < q.1 := fun q hq => by
  obtain ⟨i, hi, e⟩ := List.mem_iff_getElem.mp hq
  rw [List.length_drop] at hi
  rw [List.getElem_drop] at e
  refine h.hi (n + i) q.1 (by omega) ?_
  rw [List.getElem?_map, List.getElem?_eq_getElem (by omega), e]
  rfl
/-- ahead of a place with its cut count: the part ahead tells -/
theorem UpTo.low {ps : List (Int × α)} {p x : Int} {n : Nat} {v : α} (h : UpTo (ps.map (·.1)) p n) (hx : x ≤ p) : atL v ps x = atL v (ps.take n) x := by
  have e := atL_append (p := x) (a := ps.take n) (b := ps.drop n) (v := v)
  rw [List.take_append_drop] at e
  rw [e, atL_low fun q hq => by have := h.drop q hq; omega]
/-- behind it: the part behind tells, from what is held at the place -/
theorem UpTo.high {ps : List (Int × α)} {p x : Int} {n : Nat} {v : α} (h : UpTo (ps.map (·.1)) p n) (hx : p ≤ x) : atL v ps x = atL (atL v ps p) (ps.drop n) x := by
  have e := atL_append (p := x) (a := ps.take n) (b := ps.drop n) (v := v)
  rw [List.take_append_drop] at e
  rw [e, h.low (v := v) (Int.le_refl p)]
  congr 1
  exact atL_congr fun q hq => ⟨fun _ => h.take q hq, fun _ => by have := h.take q hq; omega⟩
/-- .. all of the part ahead counts -/
theorem UpTo.all {ps : List (Int × α)} {p x : Int} {n : Nat} {v : α} (h : UpTo (ps.map (·.1)) p n) (hx : p ≤ x) : atL v (ps.take n) x = atL v ps p := by
  rw [h.low (v := v) (Int.le_refl p)]
  exact atL_congr fun q hq => ⟨fun _ => h.take q hq, fun _ => by have := h.take q hq; omega⟩
theorem rise_take {ps : List (Int × α)} (h : Rise ps) (n : Nat) : Rise (ps.take n) := List.Pairwise.sublist (List.take_sublist _ _) h
theorem rise_drop {ps : List (Int × α)} (h : Rise ps) (n : Nat) : Rise (ps.drop n) := List.Pairwise.sublist (List.drop_sublist _ _) h
theorem rise_map {ps : List (Int × α)} {f : Int → Int} (h : Rise ps) (hf : ∀ a b, a ≤ b → f a ≤ f b) : Rise (ps.map fun q => (f q.1, q.2)) := by
  unfold Rise
  rw [List.pairwise_map]
  exact List.Pairwise.imp (fun h => hf _ _ h) h
theorem rise_join {a b : List (Int × α)} {p : Int} (ha : Rise a) (hb : Rise b) (h1 : ∀ q ∈ a, q.1 ≤ p) (h2 : ∀ q ∈ b, p ≤ q.1) : Rise (a ++ b) :=
  List.pairwise_append.mpr ⟨ha, hb, fun x hx y hy => Int.le_trans (h1 x hx) (h2 y hy)⟩
theorem rise_cons {q : Int × α} {b : List (Int × α)} (hb : Rise b) (h2 : ∀ s ∈ b, q.1 ≤ s.1) : Rise (q :: b) := List.pairwise_cons.mpr ⟨h2, hb⟩
/-! #### open -/
def openP (v : α) (ps : List (Int × α)) (z : α) (p s : Int) (n : Nat) : List (Int × α) := ps.take n ++ ((p, z) :: (p + s, atL v ps p) :: (ps.drop n).map fun q => (q.1 + s, q.2))
def openF (z : α) (p s : Int) (f : Int → α) (x : Int) : α := if x < p then f x else if x < p + s then z else f (x - s)
theorem open_rise {v z : α} {ps : List (Int × α)} {p s : Int} {n : Nat} (hr : Rise ps) (hs : 0 ≤ s) (h : UpTo (ps.map (·.1)) p n) : Rise (openP v ps z p s n) := by
  have hb : ∀ q ∈ (ps.drop n).map (fun q => (q.1 + s, q.2)), p + s ≤ q.1 := fun q hq => by
    obtain ⟨r, hr', e⟩ := List.mem_map.mp hq
    have := h.drop r hr'
    rw [← e]; show p + s ≤ r.1 + s; omega
  refine rise_join (p := p) (rise_take hr n) (rise_cons (rise_cons (rise_map (f := fun c => c + s) (rise_drop hr n) fun a b h => by omega) hb) fun q hq => ?_) h.take fun q hq => ?_
  · rcases List.mem_cons.mp hq with e | hq
    · rw [e]; show p ≤ p + s; omega
    · have := hb q hq; show p ≤ q.1; omega
  · rcases List.mem_cons.mp hq with e | hq
    · rw [e]; exact Int.le_refl _
    · rcases List.mem_cons.mp hq with e | hq
      · rw [e]; show p ≤ p + s; omega
      · have := hb q hq; omega
theorem open_at {v z : α} {ps : List (Int × α)} {p s : Int} {n : Nat} (hs : 0 ≤ s) (h : UpTo (ps.map (·.1)) p n) (x : Int) : atL v (openP v ps z p s n) x = openF z p s (atL v ps) x := by
  have hsh : ∀ w, atL w ((ps.drop n).map fun q => (q.1 + s, q.2)) x = atL w (ps.drop n) (x - s) := fun w => atL_map (f := fun c => c + s) fun q _ => ⟨fun h => by omega, fun h => by omega⟩
  unfold openP openF
  rw [atL_append, atL_cons, atL_cons]
  by_cases h1 : x < p
  · rw [if_pos h1, if_neg (by show ¬ p + s ≤ x; omega), if_neg (by show ¬ p ≤ x; omega), hsh, atL_low fun q hq => by have := h.drop q hq; omega]
    exact (h.low (by omega)).symm
  · rw [if_neg h1]
    by_cases h2 : x < p + s
    · rw [if_pos h2, if_neg (by show ¬ p + s ≤ x; omega), if_pos (by show p ≤ x; omega), hsh, atL_low fun q hq => by have := h.drop q hq; omega]
    · rw [if_neg h2, if_pos (by show p + s ≤ x; omega), hsh]
      exact (h.high (by omega)).symm
/-! #### close -/
def closeP (v : α) (ps : List (Int × α)) (p s : Int) (n m : Nat) : List (Int × α) := ps.take n ++ ((p, atL v ps (p + s)) :: (ps.drop m).map fun q => (q.1 - s, q.2))
def closeF (p s : Int) (f : Int → α) (x : Int) : α := if x < p then f x else f (x + s)
theorem close_rise {v : α} {ps : List (Int × α)} {p s : Int} {n m : Nat} (hr : Rise ps) (h : UpTo (ps.map (·.1)) p n) (h' : UpTo (ps.map (·.1)) (p + s) m) : Rise (closeP v ps p s n m) := by
  have hb : ∀ q ∈ (ps.drop m).map (fun q => (q.1 - s, q.2)), p ≤ q.1 := fun q hq => by
    obtain ⟨r, hr', e⟩ := List.mem_map.mp hq
    have := h'.drop r hr'
    rw [← e]; show p ≤ r.1 - s; omega
  refine rise_join (p := p) (rise_take hr n) (rise_cons (rise_map (f := fun c => c - s) (rise_drop hr m) fun a b h => by omega) hb) h.take fun q hq => ?_
  rcases List.mem_cons.mp hq with e | hq
  · rw [e]; exact Int.le_refl _
  · exact hb q hq
theorem close_at {v : α} {ps : List (Int × α)} {p s : Int} {n m : Nat} (h : UpTo (ps.map (·.1)) p n) (h' : UpTo (ps.map (·.1)) (p + s) m) (x : Int) : atL v (closeP v ps p s n m) x = closeF p s (atL v ps) x := by
  have hsh : ∀ w, atL w ((ps.drop m).map fun q => (q.1 - s, q.2)) x = atL w (ps.drop m) (x + s) := fun w => atL_map (f := fun c => c - s) fun q _ => ⟨fun h => by omega, fun h => by omega⟩
  unfold closeP closeF
  rw [atL_append, atL_cons]
  by_cases h1 : x < p
  · rw [if_pos h1, if_neg (by show ¬ p ≤ x; omega), hsh, atL_low fun q hq => by have := h'.drop q hq; omega]
    exact (h.low (by omega)).symm
  · rw [if_neg h1, if_pos (by show p ≤ x; omega), hsh]
    exact (h'.high (by omega)).symm
/-! #### stretch -/
def strP (ps : List (Int × α)) (t : Int) : List (Int × α) := ps.map fun q => (q.1 * t, q.2)
def strF (t : Int) (f : Int → α) (x : Int) : α := f (x / t)
theorem str_rise {ps : List (Int × α)} {t : Int} (hr : Rise ps) (ht : 1 ≤ t) : Rise (strP ps t) := rise_map (f := fun c => c * t) hr fun a b h => Int.mul_le_mul_of_nonneg_right h (by omega)
theorem str_at {v : α} {ps : List (Int × α)} {t : Int} (ht : 1 ≤ t) (x : Int) : atL v (strP ps t) x = strF t (atL v ps) x :=
  atL_map (f := fun c => c * t) fun q _ => (Int.le_ediv_iff_mul_le (by omega)).symm
/-! #### put -/
def putF' (s e : Option Int) (u : α) (f : Int → α) (x : Int) : α := if (∀ a, s = some a → a ≤ x) ∧ (∀ b, e = some b → x < b) then u else f x
def putV (v : α) (s : Option Int) (u : α) : α := match s with
  | none => u
  | some _ => v
def putP (v : α) (ps : List (Int × α)) (s e : Option Int) (u : α) (n m : Nat) : List (Int × α) :=
  (match s with | none => [] | some a => ps.take n ++ [(a, u)]) ++ (match e with | none => [] | some b => (b, atL v ps b) :: ps.drop m)
theorem put_rise {v u : α} {ps : List (Int × α)} {s e : Option Int} {n m : Nat} (hr : Rise ps) (hn : ∀ a, s = some a → UpTo (ps.map (·.1)) a n) (hm : ∀ b, e = some b → UpTo (ps.map (·.1)) b m) (hlt : ∀ a b, s = some a → e = some b → a < b) :
    Rise (putP v ps s e u n m) := by
  cases s with
  | none =>
    cases e with
    | none => exact List.Pairwise.nil
    | some b => exact rise_cons (rise_drop hr m) fun q hq => by have := (hm b rfl).drop q hq; show b ≤ q.1; omega
  | some a =>
    have h1 : Rise (ps.take n ++ [(a, u)]) := rise_join (p := a) (rise_take hr n) (List.pairwise_singleton _ _) (hn a rfl).take fun q hq => by rw [List.mem_singleton.mp hq]; exact Int.le_refl _
    have h1' : ∀ q ∈ ps.take n ++ [(a, u)], q.1 ≤ a := fun q hq => by
      rcases List.mem_append.mp hq with z | z
      · exact (hn a rfl).take q z
      · rw [List.mem_singleton.mp z]; exact Int.le_refl _
    cases e with
    | none => show Rise ((ps.take n ++ [(a, u)]) ++ []); rw [List.append_nil]; exact h1
    | some b =>
      have hab := hlt a b rfl rfl
      have hd : ∀ q ∈ ps.drop m, b ≤ q.1 := fun q hq => by have := (hm b rfl).drop q hq; omega
      refine rise_join (p := a) h1 (rise_cons (rise_drop hr m) hd) h1' fun q hq => ?_
      rcases List.mem_cons.mp hq with z | z
      · rw [z]; show a ≤ b; omega
      · have := hd q z; omega
theorem put_at {v u : α} {ps : List (Int × α)} {s e : Option Int} {n m : Nat} (hn : ∀ a, s = some a → UpTo (ps.map (·.1)) a n) (hm : ∀ b, e = some b → UpTo (ps.map (·.1)) b m) (hlt : ∀ a b, s = some a → e = some b → a < b) (x : Int) :
    atL (putV v s u) (putP v ps s e u n m) x = putF' s e u (atL v ps) x := by
  have tail : ∀ w, atL w (match e with | none => [] | some b => (b, atL v ps b) :: ps.drop m) x = if (∀ b, e = some b → x < b) then w else atL v ps x := by
    intro w
    cases e with
    | none => rw [if_pos (fun b h => nomatch h)]; rfl
    | some b =>
      rw [atL_cons]
      by_cases h1 : x < b
      · rw [if_neg (by show ¬ b ≤ x; omega), if_pos (fun c hc => by cases hc; exact h1), atL_low fun q hq => by have := (hm b rfl).drop q hq; omega]
      · rw [if_pos (by show b ≤ x; omega), if_neg (fun hc => h1 (hc b rfl))]
        exact ((hm b rfl).high (by omega)).symm
  unfold putP putF'
  rw [atL_append, tail]
  cases s with
  | none =>
    show (if (∀ b, e = some b → x < b) then u else atL v ps x) = _
    by_cases h2 : ∀ b, e = some b → x < b
    · rw [if_pos h2, if_pos ⟨fun a h => (nomatch h), h2⟩]
    · rw [if_neg h2, if_neg fun h => h2 h.2]
  | some a =>
    have e1 : atL v (ps.take n ++ [(a, u)]) x = if a ≤ x then u else atL v (ps.take n) x := by rw [atL_append]; rfl
    show (if (∀ b, e = some b → x < b) then atL v (ps.take n ++ [(a, u)]) x else atL v ps x) = _
    rw [e1]
    by_cases h1 : a ≤ x
    · rw [if_pos h1]
      by_cases h2 : ∀ b, e = some b → x < b
      · rw [if_pos h2, if_pos ⟨fun c h => by cases h; exact h1, h2⟩]
      · rw [if_neg h2, if_neg fun h => h2 h.2]
    · rw [if_neg h1, ← (hn a rfl).low (v := v) (by omega)]
      have h3 : ¬ ((∀ c, some a = some c → c ≤ x) ∧ ∀ b, e = some b → x < b) := fun h => h1 (h.1 a rfl)
      rw [if_neg h3]
      split <;> rfl
/-! #### lengths and holds -/
theorem mem_putP {v u : α} {ps : List (Int × α)} {s e : Option Int} {n m : Nat} {R : α → Prop} (hR : ∀ q ∈ ps, R q.2) (hv : ∀ x, R (atL v ps x)) (hu : R u) : ∀ q ∈ putP v ps s e u n m, R q.2 := fun q hq => by
  rcases List.mem_append.mp hq with z | z
  · cases s with
    | none => cases z
    | some a =>
      rcases List.mem_append.mp z with z | z
      · exact hR q (List.mem_of_mem_take z)
      · rw [List.mem_singleton.mp z]; exact hu
  · cases e with
    | none => cases z
    | some b =>
      rcases List.mem_cons.mp z with z | z
      · rw [z]; exact hv b
      · exact hR q (List.mem_of_mem_drop z)
theorem mem_openP {v z : α} {ps : List (Int × α)} {p s : Int} {n : Nat} {R : α → Prop} (hR : ∀ q ∈ ps, R q.2) (hv : ∀ x, R (atL v ps x)) (hz : R z) : ∀ q ∈ openP v ps z p s n, R q.2 := fun q hq => by
  rcases List.mem_append.mp hq with h | h
  · exact hR q (List.mem_of_mem_take h)
  · rcases List.mem_cons.mp h with e | h
    · rw [e]; exact hz
    · rcases List.mem_cons.mp h with e | h
      · rw [e]; exact hv p
      · obtain ⟨r, hr, e⟩ := List.mem_map.mp h
        rw [← e]; exact hR r (List.mem_of_mem_drop hr)
theorem mem_closeP {v : α} {ps : List (Int × α)} {p s : Int} {n m : Nat} {R : α → Prop} (hR : ∀ q ∈ ps, R q.2) (hv : ∀ x, R (atL v ps x)) : ∀ q ∈ closeP v ps p s n m, R q.2 := fun q hq => by
  rcases List.mem_append.mp hq with h | h
  · exact hR q (List.mem_of_mem_take h)
  · rcases List.mem_cons.mp h with e | h
    · rw [e]; exact hv _
    · obtain ⟨r, hr, e⟩ := List.mem_map.mp h
      rw [← e]; exact hR r (List.mem_of_mem_drop hr)
theorem mem_strP {ps : List (Int × α)} {t : Int} {R : α → Prop} (hR : ∀ q ∈ ps, R q.2) : ∀ q ∈ strP ps t, R q.2 := fun q hq => by
  obtain ⟨r, hr, e⟩ := List.mem_map.mp hq
  rw [← e]; exact hR r hr
theorem len_putP {v u : α} {ps : List (Int × α)} {s e : Option Int} {n m : Nat} (hnm : ∀ a b, s = some a → e = some b → n ≤ m) : (putP v ps s e u n m).length ≤ ps.length + 2 := by
  unfold putP
  rw [List.length_append]
  cases s with
  | none =>
    cases e with
    | none => simp
    | some b => simp only [List.length_nil, List.length_cons, List.length_drop]; omega
  | some a =>
    cases e with
    | none => simp only [List.length_append, List.length_take, List.length_cons, List.length_nil]; omega
    | some b =>
      have := hnm a b rfl rfl
      simp only [List.length_append, List.length_take, List.length_cons, List.length_nil, List.length_drop]; omega
theorem len_openP {v z : α} {ps : List (Int × α)} {p s : Int} {n : Nat} : (openP v ps z p s n).length ≤ ps.length + 2 := by
  unfold openP
  simp only [List.length_append, List.length_take, List.length_cons, List.length_map, List.length_drop]; omega
theorem len_closeP {v : α} {ps : List (Int × α)} {p s : Int} {n m : Nat} (hnm : n ≤ m) : (closeP v ps p s n m).length ≤ ps.length + 1 := by
  unfold closeP
  simp only [List.length_append, List.length_take, List.length_cons, List.length_map, List.length_drop]; omega
theorem UpTo.mono {cs : List Int} {p p' : Int} {n m : Nat} (h : UpTo cs p n) (h' : UpTo cs p' m) (hp : p ≤ p') : n ≤ m := by
  by_cases hc : n ≤ m
  · exact hc
  · have hm : m < cs.length := by have := h.le; omega
    have e := List.getElem?_eq_getElem hm
    have h1 := h.lo m _ (by omega) e
    have h2 := h'.hi m _ (Nat.le_refl _) e
    omega
end
end Cut
set_option Elab.async false
set_option linter.all false
set_option maxRecDepth 100000
set_option maxHeartbeats 4000000
namespace Cut
open PySem L2
/-! ### deeds as data -/
inductive Deed where
  | put (s e : Option Int) (u : V)
  | opn (p n : Int)
  | cls (p n : Int)
  | str (t : Int)
def optV : Option Int → V
  | none => .non
  | some i => .int i
def Deed.vs : Deed → List V
  | .put s e u => [.str "put", optV s, optV e, u]
  | .opn p n => [.str "open", .int p, .int n]
  | .cls p n => [.str "close", .int p, .int n]
  | .str t => [.str "stretch", .int t]
def Deed.Ok : Deed → Prop
  | .put _ _ u => HV u
  | .opn _ n => 0 ≤ n
  | .cls _ n => 0 ≤ n
  | .str t => 1 ≤ t ∧ t ≤ 3
/-- what is held behind the deed, by what was held ahead of it -/
def Deed.back : Deed → (Int → V) → Int → V
  | .put s e u, f => putF' s e u f
  | .opn p n, f => openF .non p n f
  | .cls p n, f => closeF p n f
  | .str t, f => strF t f
structure Form (v : V) (ps : List (Int × V)) : Prop where
  st : Strict ps
  df : Diff v ps
  hh : Holds v ps
theorem Form.of {v : V} {ps : List (Int × V)} (hr : Rise ps) (hh : Holds v ps) : Form v (formP v ps) := ⟨form_strict hr, form_diff, hh.form⟩
theorem Form.unique {v : V} {a b : List (Int × V)} (ha : Form v a) (hb : Form v b) (h : ∀ x, atL v a x = atL v b x) : a = b := form_unique ha.st hb.st ha.df hb.df h
/-- a form told anew is itself -/
theorem Form.again {v : V} {ps : List (Int × V)} (h : Form v ps) : formP v ps = ps := (Form.of h.st.rise h.hh).unique h fun x => atL_form h.st.rise
/-- a line behind the deed d -/
def Behind (C : Addr) (H : Hp) (v : V) (ps : List (Int × V)) (d : Deed) (Q : VK) : Prop :=
  ∀ (p : Addr) (H' : Hp) (v' : V) (ps' : List (Int × V)), Same H H' → LineNew C H H' p v' ps' → Form v' ps' → ps'.length ≤ ps.length + 2 → (∀ x, atL v' ps' x = d.back (atL v ps) x) → Q (.ref p) H'
def noPl : Option Int → Option Int → Bool
  | some a, some b => decide (b ≤ a)
  | _, _ => false
def spNoPl : Sp := fun vs H Q _ => ∃ s e, vs = [optV s, optV e] ∧ Q (.bl (noPl s e)) H
def spCheckS : Sp := fun vs H Q _ => ∃ n : Int, vs = [.int n] ∧ 0 ≤ n ∧ Q .non H
def spCheckT : Sp := fun vs H Q _ => ∃ n : Int, vs = [.int n] ∧ 1 ≤ n ∧ Q .non H
def spPut (C : Addr) : Sp := fun vs H Q _ => ∃ (p : Addr) (v : V) (ps : List (Int × V)) (s e : Option Int) (u : V), vs = [.ref p, optV s, optV e, u] ∧ LineAt C H p v ps ∧ Form v ps ∧ ps.length ≤ 900 ∧ HV u ∧ Behind C H v ps (.put s e u) Q
def spOpened (C : Addr) : Sp := fun vs H Q _ => ∃ (p : Addr) (v : V) (ps : List (Int × V)) (x n : Int), vs = [.ref p, .int x, .int n] ∧ LineAt C H p v ps ∧ Form v ps ∧ ps.length ≤ 900 ∧ 0 ≤ n ∧ Behind C H v ps (.opn x n) Q
def spClosed (C : Addr) : Sp := fun vs H Q _ => ∃ (p : Addr) (v : V) (ps : List (Int × V)) (x n : Int), vs = [.ref p, .int x, .int n] ∧ LineAt C H p v ps ∧ Form v ps ∧ ps.length ≤ 900 ∧ 0 ≤ n ∧ Behind C H v ps (.cls x n) Q
def spStretched (C : Addr) : Sp := fun vs H Q _ => ∃ (p : Addr) (v : V) (ps : List (Int × V)) (t : Int), vs = [.ref p, .int t] ∧ LineAt C H p v ps ∧ Form v ps ∧ ps.length ≤ 900 ∧ 1 ≤ t ∧ t ≤ 3 ∧ Behind C H v ps (.str t) Q
def spDone (K : PySem.W.Frag) (C : Addr) : Sp := fun vs H Q _ => ∃ (p d : Addr) (v : V) (ps : List (Int × V)) (dd : Deed), vs = [.ref p, .ref d] ∧ LineAt C H p v ps ∧ Form v ps ∧ ps.length ≤ 900 ∧ SqT K H d dd.vs ∧ dd.Ok ∧ Behind C H v ps dd Q
/-- behind a line_of of what the deed's pairs tell -/
theorem Behind.of {C : Addr} {H H1 H' : Hp} {v w : V} {ps qs : List (Int × V)} {d : Deed} {Q : VK} {p : Addr} (k : Behind C H v ps d Q) (s1 : Same H H1) (s2 : Same H1 H') (ln : LineNew C H1 H' p w (formP w qs)) (hr : Rise qs) (hh : Holds w qs)
    (hl : qs.length ≤ ps.length + 2) (hx : ∀ x, atL w qs x = d.back (atL v ps) x) : Q (.ref p) H' :=
  k p H' w _ (s1.trans s2) (ln.from s1) (Form.of hr hh) (Nat.le_trans form_len hl) fun x => (atL_form hr).trans (hx x)
theorem cutsV_app (a b : List (Int × V)) : cutsV (a ++ b) = cutsV a ++ cutsV b := List.map_append ..
theorem cutsV_take (a : List (Int × V)) (n : Nat) : (cutsV a).take n = cutsV (a.take n) := (List.map_take ..).symm
theorem cutsV_drop (a : List (Int × V)) (n : Nat) : (cutsV a).drop n = cutsV (a.drop n) := (List.map_drop ..).symm
theorem holdsV_take (v : V) (a : List (Int × V)) (n : Nat) : (holdsV v a).take (n + 1) = holdsV v (a.take n) := by
  show v :: (a.map (·.2)).take n = v :: (a.take n).map (·.2)
  rw [List.map_take]
theorem holdsV_drop {v : V} {a : List (Int × V)} {x : Int} {n : Nat} (h : UpTo (a.map (·.1)) x n) : (holdsV v a).drop n = atL v a x :: (a.drop n).map (·.2) := by
  have e := h.at (v := v)
  have hl : n < (holdsV v a).length := (List.getElem?_eq_some_iff.mp e).1
  rw [List.drop_eq_getElem_cons hl]
  have e2 : (holdsV v a)[n] = atL v a x := (List.getElem?_eq_some_iff.mp e).2
  rw [e2]
  show _ :: (a.map (·.2)).drop n = _
  rw [List.map_drop]
theorem optV_non (s : Option Int) : decide (optV s = .non) = s.isNone := by cases s <;> simp [optV]
end Cut
set_option Elab.async false
set_option linter.all false
set_option maxRecDepth 100000
set_option maxHeartbeats 4000000
namespace Cut
open PySem L2 PyProof.Rows
variable {K : PySem.W.Frag}
/-- where the line behind a deed may change -/
def Deed.edges : Deed → List Int → List Int
  | .put s e _, es => es ++ (s.toList ++ e.toList)
  | .opn p n, es => es.map (fun x => if p ≤ x then x + n else x) ++ [p, p + n]
  | .cls p n, es => es.map (fun x => if x - n > (if p < x then p else x) then x - n else (if p < x then p else x)) ++ [p]
  | .str t, es => es.map fun x => x * t
/-! ### behind a deed the line changes at the deed's edges alone -/
theorem atL_const {v : V} {ps : List (Int × V)} {x y : Int} (hxy : x ≤ y) (h : ∀ c ∈ ps.map (·.1), ¬ (x < c ∧ c ≤ y)) : atL v ps x = atL v ps y :=
  atL_congr fun q hq => ⟨fun z => Int.le_trans z hxy, fun z => by
    have := h q.1 (List.mem_map.mpr ⟨q, hq, rfl⟩)
    omega⟩
theorem back_const (dd : Deed) (hok : dd.Ok) {g : Int → V} {cs : List Int} (hg : ∀ x y, x ≤ y → (∀ c ∈ cs, ¬ (x < c ∧ c ≤ y)) → g x = g y) {x y : Int} (hxy : x ≤ y) (h : ∀ e ∈ dd.edges cs, ¬ (x < e ∧ e ≤ y)) : dd.back g x = dd.back g y := by
  cases dd with
  | put s e u =>
    have h1 : ∀ c ∈ cs, ¬ (x < c ∧ c ≤ y) := fun c hc => h c (List.mem_append_left _ hc)
    have hs : ∀ c ∈ s, ¬ (x < c ∧ c ≤ y) := fun c hc => h c (List.mem_append_right _ (List.mem_append_left _ (by rw [Option.mem_toList]; exact hc)))
    have he : ∀ c ∈ e, ¬ (x < c ∧ c ≤ y) := fun c hc => h c (List.mem_append_right _ (List.mem_append_right _ (by rw [Option.mem_toList]; exact hc)))
    have hgg := hg x y hxy h1
    show putF' s e u g x = putF' s e u g y
    unfold putF'
    cases s with
    | none =>
      cases e with
      | none => simp [hgg]
      | some b =>
        have := he b rfl
        have e2 : (x < b) ↔ (y < b) := ⟨fun z => by omega, fun z => by omega⟩
        simp [hgg, e2]
    | some a =>
      have ha := hs a rfl
      have e1 : (a ≤ x) ↔ (a ≤ y) := ⟨fun z => by omega, fun z => by omega⟩
      cases e with
      | none => simp [hgg, e1]
      | some b =>
        have := he b rfl
        have e2 : (x < b) ↔ (y < b) := ⟨fun z => by omega, fun z => by omega⟩
        simp [hgg, e1, e2]
  | opn p n =>
    have hn : 0 ≤ n := hok
    have hp := h p (List.mem_append_right _ (by simp))
    have hpn := h (p + n) (List.mem_append_right _ (by simp))
    have hm : ∀ c ∈ cs, ¬ (x < (if p ≤ c then c + n else c) ∧ (if p ≤ c then c + n else c) ≤ y) := fun c hc => h _ (List.mem_append_left _ (List.mem_map.mpr ⟨c, hc, rfl⟩))
    show openF .non p n g x = openF .non p n g y
    unfold openF
    by_cases h1 : x < p
    · have h2 : y < p := by omega
      rw [if_pos h1, if_pos h2]
      refine hg x y hxy fun c hc z => ?_
      have := hm c hc
      rw [if_neg (by omega)] at this
      exact this z
    · have h2 : ¬ y < p := by omega
      rw [if_neg h1, if_neg h2]
      by_cases h3 : x < p + n
      · have h4 : y < p + n := by omega
        rw [if_pos h3, if_pos h4]
      · have h4 : ¬ y < p + n := by omega
        rw [if_neg h3, if_neg h4]
        refine hg _ _ (by omega) fun c hc z => ?_
        have := hm c hc
        rw [if_pos (by omega)] at this
        exact this ⟨by omega, by omega⟩
  | cls p n =>
    have hn : 0 ≤ n := hok
    have hp := h p (List.mem_append_right _ (by simp))
    have hm : ∀ c ∈ cs, ¬ (x < (if c - n > (if p < c then p else c) then c - n else (if p < c then p else c)) ∧ (if c - n > (if p < c then p else c) then c - n else (if p < c then p else c)) ≤ y) := fun c hc => h _ (List.mem_append_left _ (List.mem_map.mpr ⟨c, hc, rfl⟩))
    show closeF p n g x = closeF p n g y
    unfold closeF
    by_cases h1 : x < p
    · have h2 : y < p := by omega
      rw [if_pos h1, if_pos h2]
      refine hg x y hxy fun c hc z => ?_
      have := hm c hc
      rw [if_neg (show ¬ p < c by omega), if_neg (show ¬ c - n > c by omega)] at this
      exact this z
    · have h2 : ¬ y < p := by omega
      rw [if_neg h1, if_neg h2]
      refine hg _ _ (by omega) fun c hc z => ?_
      have := hm c hc
      by_cases h5 : p < c
      · rw [if_pos h5] at this
        by_cases h6 : c - n > p
        · rw [if_pos h6] at this
          exact this ⟨by omega, by omega⟩
        · omega
      · omega
  | str t =>
    have ht : 1 ≤ t := hok.1
    have hm : ∀ c ∈ cs, ¬ (x < c * t ∧ c * t ≤ y) := fun c hc => h _ (List.mem_map.mpr ⟨c, hc, rfl⟩)
    show strF t g x = strF t g y
    unfold strF
    refine hg _ _ (Int.ediv_le_ediv (by omega) hxy) fun c hc z => ?_
    refine hm c hc ⟨?_, ?_⟩
    · exact (Int.ediv_lt_iff_lt_mul (by omega)).mp z.1
    · exact (Int.le_ediv_iff_mul_le (by omega)).mp z.2
theorem edges_len (dd : Deed) (cs : List Int) : (dd.edges cs).length ≤ cs.length + 2 := by
  cases dd with
  | put s e u =>
    show (cs ++ (s.toList ++ e.toList)).length ≤ _
    rw [List.length_append, List.length_append]
    have h1 : ∀ o : Option Int, o.toList.length ≤ 1 := fun o => by cases o <;> simp
    have := h1 s
    have := h1 e
    omega
  | opn p n => show (cs.map _ ++ [p, p + n]).length ≤ _; rw [List.length_append, List.length_map]; exact Nat.le_refl _
  | cls p n => show (cs.map _ ++ [p]).length ≤ _; rw [List.length_append, List.length_map]; show cs.length + 1 ≤ _; omega
  | str t => show (cs.map _).length ≤ _; rw [List.length_map]; omega
theorem low_ex : ∀ ps : List (Int × V), ∃ x0 : Int, ∀ q ∈ ps, x0 < q.1
  | [] => ⟨0, fun q hq => nomatch hq⟩
  | p :: ps => by
    obtain ⟨x0, h⟩ := low_ex ps
    refine ⟨if x0 < p.1 then x0 else p.1 - 1, fun q hq => ?_⟩
    rcases List.mem_cons.mp hq with e | hq
    · rw [e]; split <;> omega
    · have := h q hq
      split <;> omega
theorem Form.same {v w : V} {a b : List (Int × V)} (ha : Form v a) (hb : Form w b) (h : ∀ x, atL v a x = atL w b x) : v = w ∧ a = b := by
  obtain ⟨x1, h1⟩ := low_ex a
  obtain ⟨x2, h2⟩ := low_ex b
  have e := h (if x1 < x2 then x1 else x2)
  rw [atL_low fun q hq => by have := h1 q hq; split <;> omega, atL_low fun q hq => by have := h2 q hq; split <;> omega] at e
  subst e
  exact ⟨rfl, ha.unique hb h⟩
theorem formE_mem {f : Int → V} : ∀ {es : List Int} {v : V} {q : Int × V}, q ∈ formE f v es → q.2 = f q.1
  | [], _, _, h => nomatch h
  | e :: r, v, q, h => by
    unfold formE at h
    split at h
    · rcases List.mem_cons.mp h with z | z
      · rw [z]
      · exact formE_mem z
    · exact formE_mem h
theorem Deed.back_hv (dd : Deed) (hok : dd.Ok) {g : Int → V} (hg : ∀ x, HV (g x)) (x : Int) : HV (dd.back g x) := by
  cases dd with
  | put s e u =>
    show HV (putF' s e u g x)
    unfold putF'
    split
    · exact hok
    · exact hg x
  | opn p n =>
    show HV (openF .non p n g x)
    unfold openF
    split
    · exact hg x
    · split
      · exact HV.non
      · exact hg _
  | cls p n =>
    show HV (closeF p n g x)
    unfold closeF
    split <;> exact hg _
  | str t => exact hg _
theorem eqVs_dec : ∀ (xs ys : List V), (∀ x ∈ xs, ∀ y ∈ ys, L2.eqV x y = decide (x = y)) → eqVs xs ys = decide (xs = ys)
  | [], [], _ => by simp [eqVs]
  | [], y :: ys, _ => by simp [eqVs]
  | x :: xs, [], _ => by simp [eqVs]
  | x :: xs, y :: ys, h => by
    have ih := eqVs_dec xs ys fun a ha b hb => h a (List.mem_cons_of_mem _ ha) b (List.mem_cons_of_mem _ hb)
    have e := h x List.mem_cons_self y List.mem_cons_self
    unfold eqVs at ih ⊢
    rw [List.length_cons, List.length_cons, List.zip_cons_cons, List.all_cons, e]
    rw [Bool.eq_iff_iff] at ih ⊢
    simp only [Bool.and_eq_true, beq_iff_eq, decide_eq_true_eq, List.cons.injEq, Nat.add_right_cancel_iff] at ih ⊢
    constructor
    · rintro ⟨h1, h2, h3⟩; exact ⟨h2, ih.mp ⟨h1, h3⟩⟩
    · rintro ⟨h1, h2⟩
      have q := ih.mpr h2
      exact ⟨q.1, h1, q.2⟩
theorem eqVs_cuts (ps qs : List (Int × V)) : eqVs (cutsV ps) (cutsV qs) = decide (cutsV ps = cutsV qs) := by
  refine eqVs_dec _ _ fun x hx y hy => ?_
  obtain ⟨q, _, rfl⟩ := List.mem_map.mp hx
  obtain ⟨r, _, rfl⟩ := List.mem_map.mp hy
  show (q.1 == r.1) = _
  rw [Bool.eq_iff_iff]; simp
theorem Holds.mem {v : V} {ps : List (Int × V)} (h : Holds v ps) : ∀ x ∈ holdsV v ps, HV x := fun x hx => by
  rcases List.mem_cons.mp hx with e | hx
  · rw [e]; exact h.h0
  · obtain ⟨q, hq, e⟩ := List.mem_map.mp hx
    rw [← e]; exact h.hs q hq
theorem eqVs_holds {v u : V} {ps qs : List (Int × V)} (h : Holds v ps) (h' : Holds u qs) : eqVs (holdsV v ps) (holdsV u qs) = decide (holdsV v ps = holdsV u qs) :=
  eqVs_dec _ _ fun x hx y hy => (h.mem x hx).eqV (h'.mem y hy)
theorem pairs_eq {ps qs : List (Int × V)} {v u : V} (h1 : cutsV ps = cutsV qs) (h2 : holdsV v ps = holdsV u qs) : v = u ∧ ps = qs := by
  injection h2 with e1 e2
  refine ⟨e1, ?_⟩
  clear e1
  induction ps generalizing qs with
  | nil =>
    cases qs with
    | nil => rfl
    | cons q qs => simp [cutsV] at h1
  | cons p ps ih =>
    cases qs with
    | nil => simp [cutsV] at h1
    | cons q qs =>
      simp only [cutsV, List.map_cons, List.cons.injEq] at h1 e2
      injection h1.1 with e3
      rw [ih h1.2 e2.2, Prod.ext e3 e2.1]
theorem both_dec {v u : V} {ps qs : List (Int × V)} (h : Holds v ps) (h' : Holds u qs) : (eqVs (cutsV ps) (cutsV qs) && eqVs (holdsV v ps) (holdsV u qs)) = decide (v = u ∧ ps = qs) := by
  rw [eqVs_cuts, eqVs_holds h h', Bool.eq_iff_iff]
  simp only [Bool.and_eq_true, decide_eq_true_eq]
  exact ⟨fun ⟨h1, h2⟩ => pairs_eq h1 h2, fun ⟨h1, h2⟩ => by subst h1 h2; exact ⟨rfl, rfl⟩⟩
theorem op_isnotB {X : Cx} : OpR X (compareOp .IsNot) (fun x y H Q => ∃ i j, x = .bl i ∧ y = .bl j ∧ Q (.bl (!decide (i = j))) H) := by
  intro pins s σ H x y v u Q I rx ry h
  obtain ⟨i, j, rfl, rfl, q⟩ := h
  cases rx
  cases ry
  refine wpAny_isNot_plain (by cases i <;> cases j <;> rfl) (fin_bl I q ?_)
  cases i <;> cases j <;> rfl
theorem eqd_pair {H : Hp} {p q a b c d : Addr} {n : Nat} {ba bb : Bool} (hp : SqL K H p [.ref a, .ref b]) (hq : SqL K H q [.ref c, .ref d]) (e1 : EqD K H true n (.ref a) (.ref c) ba) (e2 : EqD K H true n (.ref b) (.ref d) bb) :
    EqD K H false (n + 1) (.ref p) (.ref q) (ba && bb) := by
  have e : (ba && bb) = (List.range [V.ref a, V.ref b].length).all (fun j => if j = 0 then ba else bb) := by cases ba <;> cases bb <;> rfl
  rw [e]
  refine EqD.lists (fun j => if j = 0 then ba else bb) hp hq rfl fun j x y hx hy => ?_
  match j, hx, hy with
  | 0, hx, hy => cases hx; cases hy; exact e1
  | 1, hx, hy => cases hx; cases hy; exact e2
  | j + 2, hx, hy => cases hx
theorem eqd_pairT {H : Hp} {p q a b c d : Addr} {n : Nat} {ba bb : Bool} (hp : SqT K H p [.ref a, .ref b]) (hq : SqT K H q [.ref c, .ref d]) (e1 : EqD K H true n (.ref a) (.ref c) ba) (e2 : EqD K H true n (.ref b) (.ref d) bb) :
    EqD K H false (n + 1) (.ref p) (.ref q) (ba && bb) := by
  have e : (ba && bb) = (List.range [V.ref a, V.ref b].length).all (fun j => if j = 0 then ba else bb) := by cases ba <;> cases bb <;> rfl
  rw [e]
  refine EqD.tups (fun j => if j = 0 then ba else bb) hp hq rfl fun j x y hx hy => ?_
  match j, hx, hy with
  | 0, hx, hy => cases hx; cases hy; exact e1
  | 1, hx, hy => cases hx; cases hy; exact e2
  | j + 2, hx, hy => cases hx
theorem ixN_in {n : Nat} {k : Int} (h0 : 0 ≤ k) (h1 : k < n) : ixN n k = some k.toNat := by
  unfold ixN
  rw [if_pos h0, if_pos h1]
/-- a told line with one hold changed -/
theorem holds_set {v u : V} {ps : List (Int × V)} (hh : Holds v ps) (hr : Rise ps) (hu : HV u) (j : Nat) :
    ∃ v' ps', (holdsV v ps).set j u = holdsV v' ps' ∧ cutsV ps' = cutsV ps ∧ Rise ps' ∧ Holds v' ps' ∧ ps'.length = ps.length := by
  cases j with
  | zero => exact ⟨u, ps, rfl, rfl, hr, ⟨hu, hh.hs⟩, rfl⟩
  | succ j =>
    have all : ∀ (ps : List (Int × V)) (j : Nat), ∃ ps' : List (Int × V), (ps.map (·.2)).set j u = ps'.map (·.2) ∧ ps'.map (·.1) = ps.map (·.1) ∧ (∀ q ∈ ps', q ∈ ps ∨ q.2 = u) := by
      intro ps
      induction ps with
      | nil => intro j; exact ⟨[], by simp, rfl, fun q hq => nomatch hq⟩
      | cons p ps ih =>
        intro j
        cases j with
        | zero =>
          refine ⟨(p.1, u) :: ps, rfl, rfl, fun q hq => ?_⟩
          rcases List.mem_cons.mp hq with e | hq
          · rw [e]; exact .inr rfl
          · exact .inl (List.mem_cons_of_mem _ hq)
        | succ j =>
          obtain ⟨ps', e1, e2, e3⟩ := ih j
          refine ⟨p :: ps', ?_, ?_, fun q hq => ?_⟩
          · rw [List.map_cons, List.set_cons_succ, e1]; rfl
          · rw [List.map_cons, e2]; rfl
          · rcases List.mem_cons.mp hq with e | hq
            · rw [e]; exact .inl List.mem_cons_self
            · rcases e3 q hq with z | z
              · exact .inl (List.mem_cons_of_mem _ z)
              · exact .inr z
    obtain ⟨ps', e1, e2, e3⟩ := all ps j
    refine ⟨v, ps', ?_, ?_, ?_, ⟨hh.h0, fun q hq => ?_⟩, ?_⟩
    · show v :: (ps.map (·.2)).set j u = _
      rw [e1]
    · have h1 : ∀ qs : List (Int × V), cutsV qs = (qs.map (·.1)).map V.int := fun qs => by rw [List.map_map]; rfl
      rw [h1, h1, e2]
    · have h1 : ∀ qs : List (Int × V), Rise qs ↔ (qs.map (·.1)).Pairwise (· ≤ ·) := fun qs => by unfold Rise; rw [List.pairwise_map]
      rw [h1, e2, ← h1]; exact hr
    · rcases e3 q hq with z | z
      · exact hh.hs q z
      · rw [z]; exact hu
    · have := congrArg List.length e2
      rw [List.length_map, List.length_map] at this
      exact this
theorem ints_flat {τ : List Int} : ∀ x ∈ τ.map V.int, flatV x = true := fun x hx => by
  obtain ⟨z, _, rfl⟩ := List.mem_map.mp hx
  rfl
def firstOf : List Int → Int
  | [] => 0
  | z :: _ => z - 1
/-- g changes at the places cs alone -/
def ConstOn (g : Int → V) (cs : List Int) : Prop := ∀ x y, x ≤ y → (∀ c ∈ cs, ¬ (x < c ∧ c ≤ y)) → g x = g y
/-- the edges, sorted, tell what changes at them alone -/
theorem edges_form {g : Int → V} {cs τ : List Int} (hg : ConstOn g cs) (hv : ∀ x, HV (g x)) (hτ : τ.Pairwise (· < ·)) (hm : ∀ x, x ∈ τ ↔ x ∈ cs) :
    Form (g (firstOf τ)) (formE g (g (firstOf τ)) τ) ∧ ∀ x, atL (g (firstOf τ)) (formE g (g (firstOf τ)) τ) x = g x := by
  have cst : ∀ {x y : Int}, x ≤ y → (∀ e ∈ τ, ¬ (x < e ∧ e ≤ y)) → g x = g y := fun {x y} hxy h => hg x y hxy fun e he => h e ((hm e).mpr he)
  refine ⟨⟨formE_strict hτ, formE_diff hτ, hv _, fun q hq => by rw [formE_mem hq]; exact hv _⟩, fun x => ?_⟩
  refine formE_at hτ (fun p hp => ?_) (fun p e he hle hmax => ?_) x
  · cases τ with
    | nil =>
      show g p = g 0
      by_cases h0 : p ≤ 0
      · exact cst h0 fun e he => nomatch he
      · exact (cst (by omega : (0 : Int) ≤ p) fun e he => nomatch he).symm
    | cons z r =>
      show g p = g (z - 1)
      have h1 := hp z List.mem_cons_self
      refine cst (by omega) fun e he q => ?_
      rcases List.mem_cons.mp he with w | w
      · omega
      · have := (List.pairwise_cons.mp hτ).1 e w
        omega
  · refine (cst hle fun e' he' q => ?_).symm
    have := hmax e' he' q.2
    omega
theorem image_form {dd : Deed} (hok : dd.Ok) {v : V} {ps : List (Int × V)} (hh : Holds v ps) {τ : List Int} (hτ : τ.Pairwise (· < ·)) (hm : ∀ x, x ∈ τ ↔ x ∈ dd.edges (ps.map (·.1))) :
    Form (dd.back (atL v ps) (firstOf τ)) (formE (dd.back (atL v ps)) (dd.back (atL v ps) (firstOf τ)) τ) ∧ ∀ x, atL (dd.back (atL v ps) (firstOf τ)) (formE (dd.back (atL v ps)) (dd.back (atL v ps) (firstOf τ)) τ) x = dd.back (atL v ps) x :=
  edges_form (cs := dd.edges (ps.map (·.1))) (fun x y hxy h => back_const dd hok (cs := ps.map (·.1)) (fun x y hxy h => atL_const hxy h) hxy h) (fun x => dd.back_hv hok (fun x => hh.at) x) hτ hm
/-! ### a row of deeds -/
/-- what is held behind a row of deeds on the line with nothing -/
def valD (qs : List (Addr × Deed)) : Int → V := qs.foldl (fun f q => q.2.back f) fun _ => .non
theorem valD_snoc (qs : List (Addr × Deed)) (q : Addr × Deed) : valD (qs ++ [q]) = q.2.back (valD qs) := by unfold valD; rw [List.foldl_append]; rfl
def edgesD (qs : List (Addr × Deed)) : List Int := qs.foldl (fun es q => q.2.edges es) []
theorem edgesD_snoc (qs : List (Addr × Deed)) (q : Addr × Deed) : edgesD (qs ++ [q]) = q.2.edges (edgesD qs) := by unfold edgesD; rw [List.foldl_append]; rfl
theorem snocRec {α : Type} {p : List α → Prop} (h0 : p []) (hs : ∀ r q, p r → p (r ++ [q])) (l : List α) : p l := by
  have h : ∀ n (l : List α), l.length = n → p l := by
    intro n
    induction n with
    | zero => intro l hl; rw [List.length_eq_zero_iff.mp hl]; exact h0
    | succ n ih =>
      intro l hl
      rcases List.eq_nil_or_concat l with e | ⟨r, q, e⟩
      · rw [e] at hl; cases hl
      · rw [List.concat_eq_append] at e
        subst e
        refine hs r q (ih r ?_)
        rw [List.length_append, List.length_singleton] at hl
        omega
  exact h _ l rfl
theorem row_const (qs : List (Addr × Deed)) : (∀ q ∈ qs, q.2.Ok) → ConstOn (valD qs) (edgesD qs) ∧ (∀ x, HV (valD qs x)) ∧ (edgesD qs).length ≤ 2 * qs.length := by
  refine snocRec (p := fun qs => (∀ q ∈ qs, q.2.Ok) → ConstOn (valD qs) (edgesD qs) ∧ (∀ x, HV (valD qs x)) ∧ (edgesD qs).length ≤ 2 * qs.length) (fun _ => ⟨fun _ _ _ _ => rfl, fun _ => HV.non, Nat.le_refl _⟩) (fun r q ih hok => ?_) qs
  obtain ⟨h1, h2, h3⟩ := ih fun z hz => hok z (List.mem_append_left _ hz)
  have hq := hok q (List.mem_append_right _ (List.mem_singleton.mpr rfl))
  rw [valD_snoc, edgesD_snoc]
  refine ⟨fun x y hxy h => back_const q.2 hq h1 hxy h, fun x => q.2.back_hv hq h2 x, ?_⟩
  have := edges_len q.2 (edgesD r)
  rw [List.length_append, List.length_singleton]
  omega
def DeedsAt (K : PySem.W.Frag) (H : Hp) (r : Addr) (qs : List (Addr × Deed)) : Prop := SqL K H r (qs.map fun q => V.ref q.1) ∧ ∀ q ∈ qs, SqT K H q.1 q.2.vs ∧ q.2.Ok
theorem DeedsAt.same {H H' : Hp} {r : Addr} {qs : List (Addr × Deed)} (h : DeedsAt K H r qs) (s : Same H H') : DeedsAt K H' r qs := ⟨s.seq h.1, fun q hq => ⟨Same.tup s (h.2 q hq).1, (h.2 q hq).2⟩⟩
/-! ### comprehensions over a range whose items are made anew -/
def NL (H H' : Hp) : Prop := ∀ b o, H b = some o → (∀ ys, o ≠ .lst ys) → H' b = some o
theorem comp_rngP {js : List Nat} {te : TE} {σ : L2.St} {H1 : Hp} {R : Addr → Hp → Prop} {lo : Int} {n : Nat} (P : Nat → V → Hp → Prop) (hP : ∀ i v H H', P i v H → NL H H' → P i v H') (hn : n ≤ 2000)
    (he : ∀ i H2 (Q' : VK), i < n → Same H1 H2 → (∀ v H3, Same H2 H3 → P i v H3 → Q' v H3) → te (some (.int (lo + i)) :: capsOf js σ) H2 Q')
    (hq : ∀ l ys H', H1 l = none → Same H1 H' → H' l = some (.lst ys) → ys.length = n → (∀ i v, ys[i]? = some v → P i v H') → R l H') :
    ∀ l, H1 l = none → ∃ W : Nat → Nat → List V → Hp → Prop, (∃ m, W 0 m [] (upd H1 l (.lst []))) ∧
      ∀ i m ys H, W i m ys H → H l = some (.lst ys) ∧ (((Itr lo n).stop i H ∧ R l H) ∨ ((Itr lo n).go i H ∧ ∀ x H', (Itr lo n).yld i H x H' → tAll (some x :: capsOf js σ) H' fun b H2 =>
        if b = true then te (some x :: capsOf js σ) H2 fun y H3 => H3 l = some (.lst ys) ∧ ys.length < sizeLine ∧ ∃ m', m' < m ∧ W (i + 1) m' (ys ++ [y]) (upd H3 l (.lst (ys ++ [y]))) else ∃ m', m' < m ∧ W (i + 1) m' ys H2)) := by
  intro l hl
  refine ⟨fun i m ys H => m = n - i ∧ i ≤ n ∧ ys.length = i ∧ Same H1 H ∧ H l = some (.lst ys) ∧ ∀ j v, ys[j]? = some v → P j v H, ⟨n, rfl, Nat.zero_le _, rfl, Same.new hl, upd_same, fun j v z => by simp at z⟩, ?_⟩
  rintro i m ys H ⟨rfl, hi, hy, hs, hg, hp⟩
  refine ⟨hg, ?_⟩
  by_cases hlt : i < n
  · refine .inr ⟨hlt, fun x H' y => ?_⟩
    obtain ⟨e1, e2⟩ := y
    subst e1 e2
    simp only [tAll, ↓reduceIte]
    refine (he i _ _ hlt hs fun v H3 s3 pv => ⟨s3 _ _ hg, small (by omega), n - (i + 1), by omega, rfl, hlt, ?_, Same.upd (hs.trans s3) hl, upd_same, fun j u hj => ?_⟩)
    · rw [List.length_append, List.length_singleton, hy]
    · have nl : ∀ b o, H3 b = some o → (∀ zs, o ≠ .lst zs) → b ≠ l := fun b o hb ho z => by
        rw [z, s3 _ _ hg] at hb
        exact ho ys (Option.some.inj hb).symm
      by_cases hjl : j < ys.length
      · rw [List.getElem?_append_left hjl] at hj
        refine hP j u _ _ (hp j u hj) fun b o hb ho => ?_
        rw [upd_ne (nl b o (s3 _ _ hb) ho)]
        exact s3 _ _ hb
      · have hj2 : j = i := by
          have := (List.getElem?_eq_some_iff.mp hj).1
          rw [List.length_append, List.length_singleton] at this
          omega
        subst hj2
        rw [List.getElem?_append_right (by omega), hy, Nat.sub_self] at hj
        obtain rfl : v = u := Option.some.inj hj
        exact hP _ _ _ _ pv fun b o hb ho => by
          rw [upd_ne (nl b o hb ho)]
          exact hb
  · have e : i = n := by omega
    subst e
    exact .inl ⟨Nat.le_refl _, hq l ys H hl hs hg hy hp⟩
end Cut
set_option Elab.async false
set_option linter.all false
set_option maxRecDepth 100000
namespace Cut
open PySem

/-- places that rise -/
def RisT (xs : Array Nat) : Prop := xs.toList.Pairwise (· < ·)

theorem RisT.lt {xs : Array Nat} (r : RisT xs) {a b : Nat} (h : a < b) (hb : b < xs.size) : xs[a]'(Nat.lt_trans h hb) < xs[b] := by
  have := List.pairwise_iff_getElem.mp r a b (by simpa using Nat.lt_trans h hb) (by simpa using hb) h
  simpa using this

theorem below_go {xs : Array Nat} (r : RisT xs) (j : Nat) : ∀ (fuel lo hi : Nat), hi - lo ≤ fuel → lo ≤ hi → hi ≤ xs.size →
    (∀ k (h : k < xs.size), k < lo → xs[k] < j) → (∀ k (h : k < xs.size), hi ≤ k → j ≤ xs[k]) →
    SetTable.below.go xs j fuel lo hi ≤ xs.size ∧ (∀ k (h : k < xs.size), k < SetTable.below.go xs j fuel lo hi → xs[k] < j) ∧ (∀ k (h : k < xs.size), SetTable.below.go xs j fuel lo hi ≤ k → j ≤ xs[k])
  | 0, lo, hi, hf, hl, hh, a, b => by
    have e : lo = hi := by omega
    subst e
    exact ⟨hh, a, b⟩
  | fuel + 1, lo, hi, hf, hl, hh, a, b => by
    unfold SetTable.below.go
    by_cases hlt : lo < hi
    · rw [if_pos hlt]
      have hm : (lo + hi) / 2 < xs.size := by omega
      have eg : xs.getD ((lo + hi) / 2) j = xs[(lo + hi) / 2] := by simp [Array.getD, hm]
      dsimp only
      rw [eg]
      by_cases hx : xs[(lo + hi) / 2] < j
      · rw [if_pos hx]
        refine below_go r j fuel _ _ (by omega) (by omega) hh (fun k h hk => ?_) b
        by_cases e : k = (lo + hi) / 2
        · subst e; exact hx
        · exact Nat.lt_trans (r.lt (show k < (lo + hi) / 2 by omega) hm) hx
      · rw [if_neg hx]
        refine below_go r j fuel _ _ (by omega) (by omega) (by omega) a (fun k h hk => ?_)
        by_cases e : k = (lo + hi) / 2
        · subst e; omega
        · have := r.lt (show (lo + hi) / 2 < k by omega) h
          omega
    · rw [if_neg hlt]
      have e : lo = hi := by omega
      subst e
      exact ⟨hh, a, b⟩

theorem below_spec {xs : Array Nat} (r : RisT xs) (j : Nat) : SetTable.below xs j ≤ xs.size ∧ (∀ k (h : k < xs.size), k < SetTable.below xs j → xs[k] < j) ∧ (∀ k (h : k < xs.size), SetTable.below xs j ≤ k → j ≤ xs[k]) :=
  below_go r j xs.size 0 xs.size (by omega) (Nat.zero_le _) (Nat.le_refl _) (fun k h z => absurd z (Nat.not_lt_zero _)) (fun k h z => absurd h (by omega))

/-- where the walk stands behind i items -/
theorem below_walk {xs : Array Nat} (r : RisT xs) {i slot : Nat} (hi : i ≤ xs.size) (h0 : i = 0 → slot = 0) (h1 : ∀ k (h : k < xs.size), k + 1 = i → slot = xs[k] + 1) : SetTable.below xs slot = i := by
  obtain ⟨a, b, c⟩ := below_spec r slot
  cases i with
  | zero =>
    have e := h0 rfl
    by_cases z : SetTable.below xs slot = 0
    · exact z
    · have := b 0 (by omega) (by omega)
      omega
  | succ i =>
    have e := h1 i (by omega) rfl
    have h2 : i < SetTable.below xs slot := by
      by_cases z : i < SetTable.below xs slot
      · exact z
      · have := c i (by omega) (by omega)
        omega
    by_cases z : SetTable.below xs slot = i + 1
    · exact z
    · have h3 := b (i + 1) (by omega) (by omega)
      have h4 := r.lt (show i < i + 1 by omega) (show i + 1 < xs.size by omega)
      omega

theorem insertAt_toList {α : Type} (xs : Array α) (p : Nat) (x : α) (hp : p ≤ xs.size) : (SetTable.insertAt xs p x).toList = xs.toList.take p ++ x :: xs.toList.drop p := by
  unfold SetTable.insertAt
  simp [Array.toList_extract, List.take_of_length_le]

theorem insertAt_perm {α : Type} (xs : Array α) (p : Nat) (x : α) (hp : p ≤ xs.size) : (SetTable.insertAt xs p x).toList.Perm (x :: xs.toList) := by
  rw [insertAt_toList xs p x hp]
  refine (List.perm_middle).trans (List.Perm.cons _ ?_)
  rw [List.take_append_drop]

theorem insertAt_size {α : Type} (xs : Array α) (p : Nat) (x : α) (hp : p ≤ xs.size) : (SetTable.insertAt xs p x).size = xs.size + 1 := by
  have := (insertAt_perm xs p x hp).length_eq
  simpa using this

theorem rise_insert {xs : Array Nat} (r : RisT xs) {j : Nat} (hn : xs[SetTable.below xs j]? ≠ some j) : RisT (SetTable.insertAt xs (SetTable.below xs j) j) := by
  obtain ⟨a, b, c⟩ := below_spec r j
  unfold RisT
  rw [insertAt_toList _ _ _ a]
  have key : ∀ y ∈ xs.toList.drop (SetTable.below xs j), j < y := by
    intro y hy
    obtain ⟨k, hk, rfl⟩ := List.mem_iff_getElem.mp hy
    rw [List.length_drop] at hk
    have hk2 : SetTable.below xs j + k < xs.size := by simpa using (by omega : SetTable.below xs j + k < xs.toList.length)
    rw [List.getElem_drop]
    have h1 := c _ hk2 (by omega)
    simp only [Array.getElem_toList]
    by_cases e : k = 0
    · subst e
      simp only [Nat.add_zero] at h1 hk2 ⊢
      have h2 : xs[SetTable.below xs j] ≠ j := fun z => hn (by rw [Array.getElem?_eq_getElem hk2, z])
      omega
    · have h0 := r.lt (show SetTable.below xs j < SetTable.below xs j + k by omega) hk2
      have h3 := c (SetTable.below xs j) (by omega) (Nat.le_refl _)
      omega
  have low : ∀ y ∈ xs.toList.take (SetTable.below xs j), y < j := by
    intro y hy
    obtain ⟨k, hk, rfl⟩ := List.mem_iff_getElem.mp hy
    rw [List.length_take] at hk
    rw [List.getElem_take]
    simp only [Array.getElem_toList]
    exact b k (by simpa using (by omega : k < xs.toList.length)) (by omega)
  refine List.pairwise_append.mpr ⟨List.Pairwise.sublist (List.take_sublist _ _) r, List.pairwise_cons.mpr ⟨key, List.Pairwise.sublist (List.drop_sublist _ _) r⟩, fun y hy z hz => ?_⟩
  rcases List.mem_cons.mp hz with rfl | hz
  · exact low y hy
  · exact Nat.lt_trans (low y hy) (key z hz)

theorem rise_range (n : Nat) : RisT (Array.range n) := by
  unfold RisT
  rw [Array.toList_range]
  exact List.pairwise_lt_range

theorem live_sub {β : Type} (f : Nat → Option β) : ∀ l : List Nat, ((l.filterMap fun j => (f j).map (j, ·)).map (·.1)).Sublist l
  | [] => List.Sublist.slnil
  | j :: l => by
    rw [List.filterMap_cons]
    cases f j with
    | none => exact List.Sublist.cons _ (live_sub f l)
    | some b => exact List.Sublist.cons_cons _ (live_sub f l)

/-- a table that fits its elements, and rises -/
structure Good (es : Array (Int × Value)) (t : SetTable) : Prop where
  size : t.place.size = es.size
  fill : t.fill ≤ t.mask
  rise : RisT t.place
  dumm : t.dummies = #[]

theorem Good.stand {t : SetTable} {es : Array (Int × Value)} {n : Nat} (h : n = es.size) : Good es (t.standIn n) where
  size := by simp [SetTable.standIn, h]
  fill := by simp [SetTable.standIn, SetTable.fill]; omega
  rise := rise_range n
  dumm := rfl

theorem Good.or {t : SetTable} {es : Array (Int × Value)} (r : RisT t.place) (d : t.dummies = #[]) : Good es (t.orStandIn es.size) := by
  unfold SetTable.orStandIn
  by_cases h : t.fits es.size = true
  · rw [if_pos h]
    unfold SetTable.fits at h
    simp only [Bool.and_eq_true, beq_iff_eq, decide_eq_true_eq] at h
    exact ⟨h.1, h.2, r, d⟩
  · rw [if_neg h]
    exact Good.stand rfl

theorem or_led (t : SetTable) (n : Nat) : (t.orStandIn n).led = t.led := by
  unfold SetTable.orStandIn
  split <;> rfl

theorem slot_free {t : SetTable} (hd : t.dummies = #[]) {j : Nat} (h : t.slot j = .empty ∨ t.slot j = .dummy) : t.place[SetTable.below t.place j]? ≠ some j := by
  intro z
  unfold SetTable.slot at h
  simp [z] at h

theorem probe_free {t : SetTable} {g : Nat → Int} {h : Int} (hd : t.dummies = #[]) : ∀ (fuel : Nat) (p : SetTable.Probe) (j : Nat) (d : Option Nat), p.dummy = none →
    SetTable.probe.go t g h fuel p = some (.empty j d) → d = none ∧ t.slot j = .empty
  | 0, p, j, d, hp, e => by simp [SetTable.probe.go] at e
  | fuel + 1, p, j, d, hp, e => by
    unfold SetTable.probe.go at e
    split at e
    · rename_i hs
      cases e
      exact ⟨hp, hs⟩
    · rename_i hs
      exfalso
      unfold SetTable.slot at hs
      dsimp only at hs
      split at hs
      · cases hs
      · rw [hd] at hs
        simp [SetTable.has] at hs
    · split at e
      · cases e
      · refine probe_free hd fuel _ j d ?_ e
        unfold SetTable.advance
        split
        · exact hp
        · exact hp

theorem Good.lay {es : Array (Int × Value)} {t : SetTable} (G : Good es t) (h : Int) (x : Value) {es' : Array (Int × Value)} {t' : SetTable} {b c : Bool} (e : layNew t es h x = (es', t', b, c)) :
    es'.toList.Perm ((h, x) :: es.toList) ∧ Good es' t' ∧ t'.led = t.led ∧ b = false := by
  unfold layNew at e
  split at e
  · rename_i slot wd hf
    unfold SetTable.freeSlot at hf
    split at hf
    · rename_i j d hp
      obtain ⟨rfl, hs⟩ := probe_free G.dumm _ _ _ _ rfl hp
      cases hf
      have hfree := slot_free G.dumm (.inl hs)
      have hle : SetTable.below t.place j ≤ es.size := by rw [← G.size]; exact (below_spec G.rise j).1
      simp only [SetTable.put, Prod.mk.injEq] at e
      obtain ⟨rfl, rfl, rfl, rfl⟩ := e
      refine ⟨insertAt_perm _ _ _ hle, Good.or (rise_insert G.rise hfree) ?_, ?_, rfl⟩
      · show (if SetTable.has t.dummies j = true then _ else t.dummies) = #[]
        rw [G.dumm]
        rfl
      · exact or_led _ _
    · cases hf
  · cases e
    refine ⟨?_, Good.stand (by simp), rfl, rfl⟩
    simp only [Array.toList_push]
    exact List.perm_append_singleton _ _

theorem filterMap_range {α : Type} (l : List α) : ((List.range l.length).filterMap fun i => l[i]?) = l := by
  have e : (List.range l.length).map (fun i => l[i]?) = l.map some := by
    refine List.ext_getElem (by simp) fun i h1 h2 => ?_
    simp only [List.length_map, List.length_range] at h1
    simp [h1]
  have e2 := congrArg (fun z => List.filterMap id z) e
  simp only [List.filterMap_map] at e2
  simpa [Function.comp_def] using e2

theorem filterMap_perm {α : Type} (xs : Array α) (l : List Nat) (h : l.Perm (List.range xs.size)) : (l.filterMap fun i => xs[i]?).Perm xs.toList := by
  refine (List.Perm.filterMap _ h).trans (List.Perm.of_eq ?_)
  have e := filterMap_range xs.toList
  simpa using e

theorem Good.relay {es : Array (Int × Value)} {t : SetTable} (G : Good es t) (wanted : Nat) {es' : Array (Int × Value)} {t' : SetTable} {c : Bool} (e : relayAll t es wanted = (es', t', c)) :
    es'.toList.Perm es.toList ∧ Good es' t' ∧ t'.led = t.led := by
  unfold relayAll at e
  split at e
  · rename_i t1 order hr
    dsimp only at e
    split at e
    · rename_i hc
      cases e
      rw [Bool.and_eq_true] at hc
      have hp : order.toList.Perm (List.range es.size) := List.isPerm_iff.mp hc.1
      have hf := hc.2
      unfold SetTable.fits at hf
      simp only [Bool.and_eq_true, beq_iff_eq, decide_eq_true_eq] at hf
      unfold SetTable.relaid SetTable.laid at hr
      cases ho : SetTable.layClean (SetTable.sizeAbove wanted - 1) (es.map (·.1)) with
      | none => rw [ho] at hr; cases hr
      | some owner =>
        rw [ho] at hr
        cases hr
        refine ⟨?_, ⟨hf.1, hf.2, ?_, rfl⟩, rfl⟩
        · rw [Array.toList_filterMap]
          exact filterMap_perm es _ hp
        · unfold RisT
          simp only [List.toList_toArray]
          exact List.Pairwise.sublist (live_sub _ _) List.pairwise_lt_range
    · cases e
      exact ⟨List.Perm.refl _, Good.stand rfl, rfl⟩
  · cases e
    exact ⟨List.Perm.refl _, Good.stand rfl, rfl⟩

theorem erase_perm {α : Type} : ∀ (l : List α) (i : Nat) (h : i < l.length), (l[i] :: l.eraseIdx i).Perm l
  | a :: l, 0, h => List.Perm.refl _
  | a :: l, i + 1, h => by
    have h' : i < l.length := by simpa using h
    show (l[i] :: a :: l.eraseIdx i).Perm (a :: l)
    exact (List.Perm.swap _ _ _).trans (List.Perm.cons _ (erase_perm l i h'))

theorem pick_perm {α : Type} (next : Nat → Nat) : ∀ (fuel k : Nat) (left : List α) (out : Array α), left.length = fuel → (pickOrder.go next fuel k left out).toList.Perm (out.toList ++ left)
  | 0, k, left, out, h => by
    have e : left = [] := List.eq_nil_of_length_eq_zero h
    subst e
    unfold pickOrder.go
    simp
  | fuel + 1, k, left, out, h => by
    unfold pickOrder.go
    have hl : next k % left.length < left.length := Nat.mod_lt _ (by omega)
    rw [List.getElem?_eq_getElem hl]
    dsimp only
    refine (pick_perm next fuel (k + 1) _ _ (by rw [List.length_eraseIdx]; rw [if_pos hl]; omega)).trans ?_
    simp only [Array.toList_push, List.append_assoc, List.singleton_append]
    refine List.Perm.append_left _ ?_
    exact erase_perm _ _ hl

theorem pickOrder_perm {α : Type} (next : Nat → Nat) (xs : Array α) : (pickOrder next xs).toList.Perm xs.toList := by
  unfold pickOrder
  refine (pick_perm next xs.size 0 xs.toList #[] (by simp)).trans ?_
  simp
end Cut
set_option Elab.async false
set_option linter.all false
set_option maxRecDepth 100000
set_option maxHeartbeats 1000000
namespace Cut
open PySem PyProof.Rows

def keyI : Value → Int
  | .int k _ => k
  | _ => 0

/-- an element of a set of ints, with its hash -/
def EleI (e : Int × Value) : Prop := ∃ k u, e = (hashInt k, .int k u)

/-- a set that holds the ints σ, each once, in a table that rises -/
def SetI (w : World) (h : Heap) (a : Addr) (σ : List Int) : Prop :=
  ∃ es ep t, h.get? a = some { cls := .type "set", dict := none, data := .set es ep t, slots := #[] } ∧ (∀ e ∈ es.toList, EleI e) ∧ (es.toList.map fun e => keyI e.2).Perm σ ∧
    Good es t ∧ t.led = !w.params.followText "set-order"

theorem Good.fits {es : Array (Int × Value)} {t : SetTable} (G : Good es t) : t.fits es.size = true := by
  unfold SetTable.fits
  rw [Bool.and_eq_true]
  exact ⟨beq_iff_eq.mpr G.size, decide_eq_true G.fill⟩

theorem Good.plain {es : Array (Int × Value)} {t : SetTable} (G : Good es t) : Good es { t with plain := false } := ⟨G.size, G.fill, G.rise, G.dumm⟩

theorem SetI.perm {w : World} {h : Heap} {a : Addr} {σ τ : List Int} (S : SetI w h a σ) (p : σ.Perm τ) : SetI w h a τ := by
  obtain ⟨es, ep, t, x1, x2, x3, x4, x5⟩ := S
  exact ⟨es, ep, t, x1, x2, x3.trans p, x4, x5⟩

theorem SetI.at {w : World} {h h' : Heap} {a : Addr} {σ : List Int} (S : SetI w h a σ) (k : ∀ o, h.get? a = some o → h'.get? a = some o) : SetI w h' a σ := by
  obtain ⟨es, ep, t, x1, x⟩ := S
  exact ⟨es, ep, t, k _ x1, x⟩

section
variable {prog : Program} {w : World} {A : Around} {E : Value → Shared → Prop} {s : Shared}

theorem eleI_of {l : List (Int × Value)} (h : ∀ e ∈ l, EleI e) : ElemsOf (intKind prog w) l := by
  intro e he
  obtain ⟨k, u, rfl⟩ := h e he
  exact ⟨⟨k, intKind_is _ _ _ _, rfl⟩, rfl⟩

theorem is_key {e : Int × Value} (h : EleI e) (k : Int) : (intKind prog w).is k e.2 = true ↔ keyI e.2 = k := by
  obtain ⟨j, u, rfl⟩ := h
  constructor
  · intro z
    exact (intKind prog w).inj _ _ _ (intKind_is prog w j u) z
  · rintro rfl
    exact intKind_is prog w _ u

theorem store_at {h : Heap} {a : Addr} {es es' : Array (Int × Value)} {ep : Nat} {t t' : SetTable} (x : h.get? a = some { cls := .type "set", dict := none, data := .set es ep t, slots := #[] }) :
    (h.update a (Obj.putSet es' t')).get? a = some { cls := .type "set", dict := none, data := .set es' (ep + 1) t', slots := #[] } :=
  Heap.get?_update_self (Obj.putSet es' t') x rfl

/-- the end of an addition: the elements laid, and laid anew where the table is full -/
theorem add_end {a : Addr} {es es1 : Array (Int × Value)} {ep : Nat} {t t1 : SetTable} {τ : List Int} {g : Bool → Sem Unit} {R : Option Bool → Shared → Prop} {wd : Bool}
    (hg : ∀ (b : Bool) (s₁ : Shared) (Q' : Unit → Shared → Prop), Q' () s₁ → wpAny (model prog w) A (g b) Q' E s₁)
    (x : s.heap.get? a = some { cls := .type "set", dict := none, data := .set es ep t, slots := #[] })
    (x2 : ∀ e ∈ es1.toList, EleI e) (x3 : (es1.toList.map fun e => keyI e.2).Perm τ) (x4 : Good es1 t1) (x5 : t1.led = !w.params.followText "set-order") (hb : es1.size < scanBound)
    (k : ∀ h', Heap.SameBut a s.heap h' → SetI w h' a τ → R (some true) { s with heap := h' }) :
    wpAny (model prog w) A (do
      storeSet a es1 t1
      if (!wd && t1.tooFull) = true then do
        g (relayAll t1 es1 (SetTable.grown es1.size)).2.2
        storeSet a (relayAll t1 es1 (SetTable.grown es1.size)).1 (relayAll t1 es1 (SetTable.grown es1.size)).2.1
        pure (some true)
      else pure (some true)) R E s := by
  refine wpAny_bind (wpAny_storeSet_of x rfl ?_ (fits_of_scanBound hb))
  have y1 := store_at (es' := es1) (t' := t1) x
  have b1 := Heap.SameBut.update s.heap a (Obj.putSet es1 t1)
  by_cases hc : (!wd && t1.tooFull) = true
  · rw [if_pos hc]
    cases hR : relayAll t1 es1 (SetTable.grown es1.size) with
    | mk es2 r =>
      obtain ⟨t2, gv⟩ := r
      obtain ⟨p1, p2, p3⟩ := x4.relay _ hR
      have hb2 : es2.size < scanBound := by
        have := p1.length_eq
        simp only [Array.length_toList] at this
        omega
      refine wpAny_bind (hg _ _ _ (wpAny_bind (wpAny_storeSet_of (s := { s with heap := _ }) y1 rfl (wpAny_pure ?_) (fits_of_scanBound hb2))))
      refine k _ (b1.trans (Heap.SameBut.update _ a _)) ⟨es2, _, t2, store_at y1, fun e he => x2 e (p1.mem_iff.mp he), (p1.map _).trans x3, p2, p3.trans x5⟩
  · rw [if_neg hc]
    exact wpAny_pure (k _ b1 ⟨es1, _, t1, y1, x2, x3, x4, x5⟩)

theorem add_int {a : Addr} {σ : List Int} {k : Int} {u : Tok} {Q : Bool → Shared → Prop} (S : SetI w s.heap a σ) (hroom : σ.length + 1 < scanBound)
    (h : ∀ b h', Heap.SameBut a s.heap h' → SetI w h' a (if k ∈ σ then σ else σ ++ [k]) → Q b { s with heap := h' }) :
    wpAny (model prog w) A (setAddHashed a (.int k u) ((intKind prog w).hash k)) Q E s := by
  obtain ⟨es, ep, t, x, x2, x3, G, x5⟩ := id S
  have hsz : es.size = σ.length := by
    have := x3.length_eq
    simpa using this
  have hb : es.size < scanBound := by omega
  have el : ElemsOf (intKind prog w) es.toList := eleI_of x2
  unfold setAddHashed setAddHashedIn
  refine wpAny_holding (wpAny_bind (wpAny_setState_of x rfl G.fits ?_))
  dsimp only
  rw [byScan_of (x := .int k u) rfl hb el, if_pos rfl]
  unfold setAddByScan
  refine wpAny_bind (wpAny_bind (wpAny_rule (wpAny_bind (wpAny_setScan_of (intKind_is prog w k u) x rfl G.fits el ?_))))
  cases hr : List.findIdx? (fun e => (intKind prog w).is k e.2) es.toList with
  | some j =>
    dsimp only
    obtain ⟨hj, hpj, _⟩ := List.findIdx?_eq_some_iff_getElem.mp hr
    have hm : k ∈ σ := x3.mem_iff.mp (List.mem_map.mpr ⟨_, List.getElem_mem hj, (is_key (x2 _ (List.getElem_mem hj)) k).mp hpj⟩)
    rw [if_pos hm] at h
    exact wpAny_pure (wpAny_pure (h _ s.heap (Heap.SameBut.refl a s.heap) S))
  | none =>
    dsimp only
    have hm : ¬ k ∈ σ := by
      intro z
      obtain ⟨e, he, hk⟩ := List.mem_map.mp (x3.mem_iff.mpr z)
      have := List.findIdx?_eq_none_iff.mp hr e he
      rw [(is_key (x2 e he) k).mpr hk] at this
      cases this
    rw [if_neg hm] at h
    cases hL : layNew t es ((intKind prog w).hash k) (.int k u) with
    | mk es1 r =>
      obtain ⟨t1, wd, gv⟩ := r
      obtain ⟨p1, p2, p3, p4⟩ := G.lay _ _ hL
      have y2 : ∀ e ∈ es1.toList, EleI e := fun e he => by
        rcases List.mem_cons.mp (p1.mem_iff.mp he) with rfl | he'
        · exact ⟨k, u, rfl⟩
        · exact x2 e he'
      have y3 : (es1.toList.map fun e => keyI e.2).Perm (σ ++ [k]) := ((p1.map _).trans (List.Perm.cons _ x3)).trans (List.perm_append_singleton _ _).symm
      have y5 := p3.trans x5
      have hb1 : es1.size < scanBound := by
        have := p1.length_eq
        simp only [Array.length_toList, List.length_cons] at this
        omega
      dsimp only
      refine wpAny_bind ?_
      have gw : ∀ (R' : Unit → Shared → Prop), R' () s → wpAny (model prog w) A (match gv with | true => rule "set.scan.the-table-gave-way" | false => pure ()) R' E s := by
        intro R' q
        cases gv
        · exact wpAny_pure q
        · exact wpAny_rule q
      refine gw _ ?_
      by_cases hp : t1.plain = true
      · rw [if_pos hp]
        refine wpAny_bind ?_
        rw [hashByValue_scannable 8 (x := .int k u) rfl]
        refine wpAny_pure ?_
        refine add_end ?_ x y2 y3 p2 y5 hb1 fun h' sb S' => wpAny_pure (h _ h' sb S')
        intro b s₁ Q' q
        cases b
        · exact wpAny_pure q
        · exact wpAny_rule q
      · rw [if_neg hp]
        refine wpAny_bind (wpAny_pure ?_)
        refine add_end ?_ x y2 y3 p2 y5 hb1 fun h' sb S' => wpAny_pure (h _ h' sb S')
        intro b s₁ Q' q
        cases b
        · exact wpAny_pure q
        · exact wpAny_rule q
end
end Cut
set_option Elab.async false
set_option linter.all false
set_option maxRecDepth 100000
set_option maxHeartbeats 3200000
namespace Cut
open PySem PyProof.Rows

/-- the different ones, in the order first met -/
def ddup (l : List Int) : List Int := l.foldl (fun σ k => if k ∈ σ then σ else σ ++ [k]) []

theorem ddup_snoc (l : List Int) (k : Int) : ddup (l ++ [k]) = if k ∈ ddup l then ddup l else ddup l ++ [k] := by
  unfold ddup
  rw [List.foldl_append]
  rfl

theorem ddup_le : ∀ l : List Int, (ddup l).length ≤ l.length := by
  suffices h : ∀ l σ : List Int, (l.foldl (fun σ k => if k ∈ σ then σ else σ ++ [k]) σ).length ≤ σ.length + l.length by
    intro l
    have := h l []
    simpa [ddup] using this
  intro l
  induction l with
  | nil => intro σ; simp
  | cons a l ih =>
    intro σ
    refine Nat.le_trans (ih _) ?_
    dsimp only
    split <;> simp <;> omega

theorem ddup_mem (x : Int) : ∀ l : List Int, x ∈ ddup l ↔ x ∈ l := by
  suffices h : ∀ l σ : List Int, x ∈ l.foldl (fun σ k => if k ∈ σ then σ else σ ++ [k]) σ ↔ x ∈ σ ∨ x ∈ l by
    intro l
    have := h l []
    simpa [ddup] using this
  intro l
  induction l with
  | nil => intro σ; simp
  | cons a l ih =>
    intro σ
    refine (ih _).trans ?_
    dsimp only
    by_cases z : a ∈ σ
    · rw [if_pos z]
      constructor
      · rintro (q | q)
        · exact .inl q
        · exact .inr (List.mem_cons_of_mem _ q)
      · rintro (q | q)
        · exact .inl q
        · rcases List.mem_cons.mp q with rfl | q
          · exact .inl z
          · exact .inr q
    · rw [if_neg z]
      simp only [List.mem_append, List.mem_cons, List.mem_singleton, List.not_mem_nil, or_false, or_assoc]

theorem ddup_nodup : ∀ l : List Int, (ddup l).Nodup := by
  suffices h : ∀ l σ : List Int, σ.Nodup → (l.foldl (fun σ k => if k ∈ σ then σ else σ ++ [k]) σ).Nodup by
    intro l
    exact h l [] List.nodup_nil
  intro l
  induction l with
  | nil => intro σ h; exact h
  | cons a l ih =>
    intro σ h
    refine ih _ ?_
    dsimp only
    by_cases z : a ∈ σ
    · rw [if_pos z]; exact h
    · rw [if_neg z]
      refine List.nodup_append.mpr ⟨h, by simp, ?_⟩
      intro p hp q hq e
      rw [List.mem_singleton] at hq
      subst hq; subst e
      exact z hp

section
variable {prog : Program} {w : World} {A : Around} {R : Result → Shared → Prop} {I : Addr} {fp wr : List Addr} {G : Array GenState → Array GenState → Prop} {n : Nat} {P : Nat → Value → Prop} {St : Nat → Shared → Prop}

theorem loop_set (W : WalksS prog w A.in1 I fp wr G n P St) (S : Addr) (hS : S ∉ fp) (val : Nat → Int) (hv : ∀ i v, P i v → ∃ u, v = .int (val i) u) (hb : n + 1 < scanBound) :
    ∀ (k i : Nat) (s : Shared), n - i = k → i ≤ n → St i s → SetI w s.heap S (ddup ((List.range i).map val)) →
      (∀ s', Moved (S :: wr) G s s' → SetI w s'.heap S (ddup ((List.range n).map val)) → R (.ok (.ret .none)) s') →
      codeAny (model prog w) A (.builtin "set.update.loop" ⟨[.ref S, .ref I], []⟩) R s := by
  have hw : S ∉ wr := fun z => hS (W.sub _ z)
  have more : ∀ b ∈ wr, b ∈ S :: wr := fun b z => List.mem_cons_of_mem _ z
  intro k
  induction k with
  | zero =>
    intro i s hk hi st T q
    obtain rfl : i = n := by omega
    refine codeAny_builtin PyProof.Rows.F.entry_set_update_loop ?_
    rw [Around.under_plainId PyProof.Rows.F.plain_set_update_loop]
    show wpAny _ A.in1 (pyNext (.ref I) >>= _) _ _ _
    exact wpAny_bind (W.done s _ _ st fun s' m => wpAny_pure (q s' (m.mono more) (T.at fun o e => m.heap S o hw e)))
  | succ k ih =>
    intro i s hk hi st T q
    have hlt : i < n := by omega
    refine codeAny_builtin PyProof.Rows.F.entry_set_update_loop ?_
    rw [Around.under_plainId PyProof.Rows.F.plain_set_update_loop]
    show wpAny _ A.in1 (pyNext (.ref I) >>= _) _ _ _
    refine wpAny_bind (W.item i s _ _ hlt st fun v s' hP st' m => ?_)
    obtain ⟨u, rfl⟩ := hv i v hP
    have T' : SetI w s'.heap S (ddup ((List.range i).map val)) := T.at fun o e => m.heap S o hw e
    show wpAny _ A.in1 (holding [Value.int (val i) u] (setAdd S (.int (val i) u)) >>= _) _ _ _
    refine wpAny_bind (wpAny_holding ?_)
    unfold setAdd
    refine wpAny_holding (wpAny_bind ((intKind prog w).pyHash (k := val i) (intKind_is _ _ _ _) ?_))
    have room : (ddup ((List.range i).map val)).length + 1 < scanBound := by
      have := ddup_le ((List.range i).map val)
      simp at this
      omega
    refine add_int (s := { s' with toks := s'.toks + 1 }) T' room fun b h' sb T2 => ?_
    have T3 : SetI w h' S (ddup ((List.range (i + 1)).map val)) := by
      rw [List.range_succ, List.map_append]
      show SetI w h' S (ddup (_ ++ [val i]))
      rw [ddup_snoc]
      exact T2
    refine wpAny_pure ⟨plainId_quiet PyProof.Rows.F.plain_set_update_loop _, ih (i + 1) _ (by omega) hlt (W.frame _ s' _ _ st' (Nat.le_succ _) fun c hc o e => ?_) T3 fun s'' m2 T4 => ?_⟩
    · rw [sb.2 c fun z : c = S => hS (z ▸ hc)]
      exact e
    · refine q s'' (Moved.trans W.gtrans ((m.mono more).then_heap (Nat.le_succ _) fun c o hc e => ?_) m2) T4
      rw [sb.2 c fun z : c = S => hc (z ▸ List.mem_cons_self)]
      exact e
end

section
variable {prog : Program} {w : World} {A : Around} {E : Value → Shared → Prop} {s : Shared}

abbrev oSet0 (w : World) : Obj := { cls := .type "set", dict := none, data := .set #[] 0 (.fresh 0 0 (!w.params.followText "set-order")), slots := #[] }

theorem setI_new (h : Heap) : SetI w (h.push (oSet0 w)) h.objs.size [] :=
  ⟨#[], 0, _, Heap.get?_push_size _ rfl, fun e z => by simp at z, List.Perm.refl _, ⟨rfl, Nat.zero_le _, List.Pairwise.nil, rfl⟩, rfl⟩

theorem set_new1 (a : Value) {Q₁ : Value → Shared → Prop} (h : Q₁ (.ref s.heap.objs.size) { s with heap := s.heap.push (oSet0 w) }) :
    codeAny (model prog w) A (.call (.builtin "set.__new__") ⟨[.type "set", a], []⟩) (wants Q₁ E) s := by
  refine codeAny_of_tree ?_
  show wpAny _ A.in1 (checkBuiltinCall "set.__new__" ⟨[.type "set", a], []⟩ >>= fun _ => again (.builtin "set.__new__" ⟨[.type "set", a], []⟩)) _ _ s
  refine wpAny_bind (wpAny_of_eq (PySem.F.newCall_set_1 a) (wpAny_pure ⟨plainId_quiet F.plain_set_new _, codeAny_builtin F.entry_set_new ?_⟩))
  rw [Around.under_plainId F.plain_set_new]
  unfold Builtin.«set.__new__» Builtin.Frozenset.newClass
  have sub := sub_set_self
  obtain ⟨hp, g, d, tk, os⟩ := s
  dsimp only
  wp_walk
  refine wpAny_askSetting (wpAny_pure ?_)
  simp only [newObj]
  exact wpAny_bind (wpAny_alloc (wpAny_pure (wpAny_pure h)))

theorem range_getD : ∀ ns : List Int, (List.range ns.length).map (fun i => ns.getD i 0) = ns := by
  intro ns
  refine List.ext_getElem (by simp) fun i h1 h2 => ?_
  simp [List.getD, h2]

theorem set_list {l : Addr} {items : Array Value} {ns : List Int} {Q : Value → Shared → Prop} (hh : A.handled = none) (hl : s.heap.IsList l items) (hi : IntsAre items.toList ns) (hb : items.size + 1 < scanBound)
    (q : ∀ (h' : Heap) (tk : Nat), SetI w h' s.heap.objs.size (ddup ns) → (∀ b o, b < s.heap.objs.size → s.heap.get? b = some o → h'.get? b = some o) → Q (.ref s.heap.objs.size) { s with heap := h', toks := tk }) :
    wpAny (model prog w) A (call (.type "set") [.ref l]) Q E s := by
  have hlen : items.size = ns.length := by
    have := IntsAre.length hi
    simpa using this
  obtain ⟨c, tl, mro⟩ := F.called_set.mro
  have made := F.called_set.made
  have sub := F.called_set.sub
  refine wpAny_call ?_
  refine codeAny_of_tree ?_
  show wpAny _ _ (callAny (.type "set") _) _ _ _
  refine wpAny_pure ⟨Code.quiet_builtin _ (by decide +kernel), ?_⟩
  refine codeAny_builtin F.entry_type_call ?_
  rw [Around.under_plain (weight_type_call_type "set" [.ref l] []) rfl]
  have n1 := F.called_set.notType
  have n2 := F.called_set.canCreate
  have n3 := F.typeCall_set_1 (.ref l)
  repeat (any_goals (first | assumption | wp_step))
  refine codeAny_mono (set_new1 (.ref l) (E := E) (Q₁ := fun v s₁ => v = .ref s.heap.objs.size ∧ s₁ = { s with heap := s.heap.push (oSet0 w) }) ⟨rfl, rfl⟩) fun r s₁ hr => ?_
  cases r with
  | error e => exact hr
  | ok fl =>
    cases fl with
    | ret v =>
      obtain ⟨rfl, rfl⟩ := hr
      have g0 : (s.heap.push (oSet0 w)).get? s.heap.objs.size = some (oSet0 w) := Heap.get?_push_size _ rfl
      have ty : Shared.TypeIs { s with heap := s.heap.push (oSet0 w) } (.ref s.heap.objs.size) "set" := ⟨_, g0, rfl⟩
      have i1 := F.called_set.init.lookup
      have i2 := F.called_set.init.bind (.ref s.heap.objs.size)
      repeat (any_goals (first | assumption | wp_step))
      refine codeAny_mono (codeAny_call_builtin (R := wants (fun v s₂ => v = .none ∧ ∃ h' tk, s₂ = { s with heap := h', toks := tk } ∧ SetI w h' s.heap.objs.size (ddup ns) ∧
          (∀ b o, b < s.heap.objs.size → s.heap.get? b = some o → h'.get? b = some o)) E) F.called_set.init.plain F.entry_set_init (check_set_init_1 ty ?_)) fun r₂ s₂ hr₂ => ?_
      · obtain ⟨ol, hol, hcl, nl, hdl⟩ := hl
        obtain ⟨ocls, odict, odata, oslots⟩ := ol
        simp only at hcl hdl
        subst hcl
        subst hdl
        have g1 : (s.heap.push (oSet0 w)).get? l = some { cls := .type "list", dict := odict, data := .seq items nl, slots := oslots } := Heap.get?_push_of_some _ hol
        have n4 := F.sub_list_set
        have n5 := F.sub_list_frozenset
        have n6 : (Value.type "list" == Value.type "dict") = false := by decide
        have lst : (s.heap.push (oSet0 w)).IsList l items := ⟨_, g1, rfl, nl, rfl⟩
        unfold Builtin.«set.__init__» noKeywords Builtin.Frozenset.updateFrom
        generalize hPI : pyIter = PI
        wp_walk
        subst hPI
        refine wpAny_pyIter_list lst ?_
        refine wpAny_bind (wpAny_runValue ?_)
        have hlS : l < s.heap.objs.size := Heap.lt_size hol
        have hh3 : A.in1.in1.in1.handled = none := by simp [hh]
        have ne1 : l ≠ (s.heap.push (oSet0 w)).objs.size := by
          rw [Heap.size_push]
          exact Nat.ne_of_lt (Nat.lt_succ_of_lt hlS)
        have ne2 : s.heap.objs.size ∉ [(s.heap.push (oSet0 w)).objs.size, l] := by
          rw [Heap.size_push]
          simp only [List.mem_cons, List.not_mem_nil, or_false, not_or]
          exact ⟨Nat.ne_of_lt (Nat.lt_succ_self _), Nat.ne_of_gt hlS⟩
        have hv : ∀ (i : Nat) (v : Value), items[i]? = some v → ∃ u, v = .int ((fun i => ns.getD i 0) i) u := fun i v z => IntsAre.int_at hi i v (by rw [Array.getElem?_toList]; exact z)
        refine loop_set ((Walks.list hh3 _ l ne1 items).toS) s.heap.objs.size ne2 (fun i => ns.getD i 0) hv hb items.size 0 _ rfl (Nat.zero_le _) ⟨⟨_, Heap.get?_push_size _ rfl, rfl, rfl⟩, lst.push _⟩ ?x0 ?x1
        case x0 => exact (setI_new s.heap).at fun o e => Heap.get?_push_of_some _ e
        case x1 =>
          intro s' m T
          rw [hlen, range_getD] at T
          obtain ⟨h', g', d', tk', os'⟩ := s'
          obtain rfl : g' = s.gens := m.gens
          obtain rfl : d' = s.drawn := m.drawn
          obtain rfl : os' = s.os := m.os
          refine wpAny_pure (show wpAny _ _ (ret Value.none) _ _ _ from wpAny_pure ⟨rfl, h', tk', rfl, T, fun b o hb e => ?_⟩)
          refine m.heap b o ?_ (Heap.get?_push_of_some _ (Heap.get?_push_of_some _ e))
          rw [Heap.size_push]
          simp only [List.mem_cons, List.not_mem_nil, or_false, not_or]
          exact ⟨Nat.ne_of_lt hb, Nat.ne_of_lt (Nat.lt_succ_of_lt hb)⟩
      · cases r₂ with
        | error e => exact hr₂
        | ok fl₂ =>
          cases fl₂ with
          | ret v =>
            obtain ⟨rfl, h', tk, rfl, T, kp⟩ := hr₂
            repeat (any_goals (first | assumption | wp_step))
            exact q _ _ T kp
          | _ => exact hr₂.elim
    | _ => exact hr.elim
end
end Cut
set_option Elab.async false
set_option linter.all false
set_option maxRecDepth 100000
set_option maxHeartbeats 3200000
namespace Cut
open PySem PyProof.Rows

theorem sl_next : Slot "set_iterator" "__next__" "set_iterator.__next__" :=
  .of (owner := "set_iterator") (n := "__next__") (by rw [typeLookup_type, builtinLookup_eq_fast]; kernel_rfl) (by decide +kernel) (by decide +kernel) (by decide +kernel)
    (by first | exact .inl (by decide +kernel) | exact .inr (by decide +kernel)) (by rw [isSubtype_type]; kernel_rfl)
theorem en_next : entryFor table "set_iterator.__next__" = some Builtin.«set_iterator.__next__» := entryFor_of_tree (by kernel_rfl)
theorem ow_next : Manifest.owners.lookup (String.ofList ['r', 'o', 't', 'a', 'r', 'e', 't', 'i', '_', 't', 'e', 's'].reverse) = some Manifest.sig_set_iterator := by kernel_rfl
theorem ar_next (a : Value) : argsOk "set_iterator.__next__" ⟨[a], []⟩ := by
  unfold argsOk; rw [signature?_of (id := "set_iterator.__next__") (n := ['_', '_', 't', 'x', 'e', 'n', '_', '_']) (o := ['r', 'o', 't', 'a', 'r', 'e', 't', 'i', '_', 't', 'e', 's']) (by kernel_rfl) ow_next]; kernel_rfl
theorem sl_iter : Slot "set" "__iter__" "set.__iter__" :=
  .of (owner := "set") (n := "__iter__") (by rw [typeLookup_type, builtinLookup_eq_fast]; kernel_rfl) (by decide +kernel) (by decide +kernel) (by decide +kernel)
    (by first | exact .inl (by decide +kernel) | exact .inr (by decide +kernel)) (by rw [isSubtype_type]; kernel_rfl)
theorem en_iter : entryFor table "set.__iter__" = some Builtin.«frozenset.__iter__» := entryFor_alias (id' := "frozenset.__iter__") (by kernel_rfl) rfl (by decide +kernel) (by kernel_rfl)
theorem ow_set : Manifest.owners.lookup (String.ofList ['t', 'e', 's'].reverse) = some Manifest.sig_set := by kernel_rfl
theorem ar_iter (a : Value) : argsOk "set.__iter__" ⟨[a], []⟩ := by
  unfold argsOk; rw [signature?_of (id := "set.__iter__") (n := ['_', '_', 'r', 'e', 't', 'i', '_', '_']) (o := ['t', 'e', 's']) (by kernel_rfl) ow_set]; kernel_rfl
theorem sl_self : Slot "set_iterator" "__iter__" "set_iterator.__iter__" :=
  .of (owner := "set_iterator") (n := "__iter__") (by rw [typeLookup_type, builtinLookup_eq_fast]; kernel_rfl) (by decide +kernel) (by decide +kernel) (by decide +kernel)
    (by first | exact .inl (by decide +kernel) | exact .inr (by decide +kernel)) (by rw [isSubtype_type]; kernel_rfl)
theorem lk_len : typeLookup (.type "set") "__len__" = pure (some (.builtin "set.__len__")) := by rw [typeLookup_type, builtinLookup_eq_fast]; kernel_rfl

section
variable {prog : Program} {w : World} {A : Around} {E : Value → Shared → Prop} {s : Shared}

theorem wp_choose {src : Source} {n : Nat} {Q : Nat → Shared → Prop} (hn : n ≠ 0) (h : ∀ k, k < n → Q k { s with drawn := s.drawn.bump src }) : wpAny (model prog w) A (choose src n) Q E s :=
  fun Γ p hΓ => ⟨hn, h _ (Nat.mod_lt _ (Nat.pos_of_ne_zero hn))⟩

theorem wp_draw {α : Type} : ∀ (n : Nat) (l : List α) (s : Shared) (Q : List α → Shared → Prop), l.length = n → (∀ r d, r.Perm l → Q r { s with drawn := d }) → wpAny (model prog w) A (drawOrder n l) Q E s
  | 0, l, s, Q, hl, h => by
    have e : l = [] := List.eq_nil_of_length_eq_zero hl
    subst e
    exact wpAny_pure (h [] s.drawn (List.Perm.refl _))
  | n + 1, [], s, Q, hl, h => by cases hl
  | n + 1, x :: l, s, Q, hl, h => by
    unfold drawOrder
    refine wpAny_bind (wp_choose (by simp) fun k hk => ?_)
    rw [List.getElem?_eq_getElem hk]
    refine wpAny_bind (wp_draw n _ _ _ ?_ fun r d hp => wpAny_pure ?_)
    · rw [List.length_eraseIdx, if_pos hk]
      omega
    · exact h _ d ((List.Perm.cons _ hp).trans (erase_perm _ _ hk))

/-- the iterator of a set, behind i items -/
def ItAt (h : Heap) (I a : Addr) (x : Value) (i n ep : Nat) : Prop :=
  h.get? I = some { cls := .type "set_iterator", dict := none, data := .fields #[x, .int i 0, .ref a, .int n 0, .int ep 0], slots := #[] }

abbrev SetAt (h : Heap) (a : Addr) (es : Array (Int × Value)) (ep : Nat) (t : SetTable) : Prop :=
  h.get? a = some { cls := .type "set", dict := none, data := .set es ep t, slots := #[] }

theorem next_item {I a : Addr} {es : Array (Int × Value)} {ep i : Nat} {t : SetTable} {slot nx : Nat} {x : Value} {Q : Option Value → Shared → Prop} (hI : ItAt s.heap I a (.int slot 0) i es.size ep) (ha : SetAt s.heap a es ep t) (G : Good es t)
    (hn : ∀ (A' : Around) (E' : Value → Shared → Prop) (Q' : Option (Value × Nat) → Shared → Prop), Q' (some (x, nx)) s → wpAny (model prog w) A' (setNext a slot i ep) Q' E' s)
    (q : ∀ h', ItAt h' I a (.int nx 0) (i + 1) es.size ep → Heap.SameBut I s.heap h' → Q (some x) { s with heap := h' }) : wpAny (model prog w) A (pyNext (.ref I)) Q E s := by
  have ty : s.TypeIs (.ref I) "set_iterator" := ⟨_, hI, rfl⟩
  unfold pyNext
  refine wpAny_bind (wpAny_attempt (wpAny_callSpecial?_slot (name := Str.ofString "__next__") ty sl_next (wpAny_call_entry sl_next ty en_next ?_ (ar_next _))))
  unfold Builtin.«set_iterator.__next__»
  refine wpAny_bind (wpAny_pure ?_)
  refine wpAny_bind (wpAny_fieldsOf hI rfl ?_)
  dsimp only
  refine wpAny_bind (wpAny_setEntries_of ha rfl G.fits ?_)
  rw [if_neg (by simp)]
  refine wpAny_bind (hn _ _ _ ?_)
  dsimp only
  refine wpAny_bind (wpAny_setField_rec hI (by simp) fun h1 g1 b1 => ?_)
  refine wpAny_bind (wpAny_setField_rec (s := { s with heap := h1 }) g1 (by simp) fun h2 g2 b2 => ?_)
  exact wpAny_pure ⟨x, rfl, wpAny_pure (q h2 g2 (b1.trans b2))⟩
end
end Cut
set_option Elab.async false
set_option linter.all false
set_option maxRecDepth 100000
set_option maxHeartbeats 3200000
namespace Cut
open PySem PyProof.Rows
section
variable {prog : Program} {w : World} {A : Around} {E : Value → Shared → Prop} {s : Shared}

theorem next_stop {I a : Addr} {es : Array (Int × Value)} {ep i : Nat} {t : SetTable} {slot : Nat} {Q : Option Value → Shared → Prop} (hh : A.handled = none) (hI : ItAt s.heap I a (.int slot 0) i es.size ep) (ha : SetAt s.heap a es ep t) (G : Good es t)
    (hn : ∀ (A' : Around) (E' : Value → Shared → Prop) (Q' : Option (Value × Nat) → Shared → Prop), Q' none s → wpAny (model prog w) A' (setNext a slot i ep) Q' E' s)
    (q : ∀ h', Heap.ExtBut I s.heap h' → Q none { s with heap := h' }) : wpAny (model prog w) A (pyNext (.ref I)) Q E s := by
  have ty : s.TypeIs (.ref I) "set_iterator" := ⟨_, hI, rfl⟩
  unfold pyNext
  refine wpAny_bind (wpAny_attempt (wpAny_callSpecial?_slot (name := Str.ofString "__next__") ty sl_next (wpAny_call_entry sl_next ty en_next ?_ (ar_next _))))
  unfold Builtin.«set_iterator.__next__»
  refine wpAny_bind (wpAny_pure ?_)
  refine wpAny_bind (wpAny_fieldsOf hI rfl ?_)
  dsimp only
  refine wpAny_bind (wpAny_setEntries_of ha rfl G.fits ?_)
  rw [if_neg (by simp)]
  refine wpAny_bind (hn _ _ _ ?_)
  dsimp only
  refine wpAny_bind (wpAny_setField_rec hI (by simp) fun h1 g1 b1 => ?_)
  refine wpAny_bind (show wpAny _ _ (newExc (.type "StopIteration") []) _ _ _ from ?_)
  simp only [newExc, newTuple]
  refine wpAny_bind (wpAny_newObj_type ?_ (by size_fits))
  refine wpAny_bind (m := firstArgMember _ _) (wpAny_of_eq (a := Value.none) (by first | rfl | (simp only [firstArgMember]; rfl)) (wpAny_newObj_type ?_ (by size_fits)))
  simp only [raiseNew]
  refine wpAny_bind (wpAny_handled ?_)
  rw [show A.in1.handled = none from hh]
  refine wpAny_bind (wpAny_pure (wpAny_throw ?_))
  refine wpAny_bind (wpAny_isInstance (T := "StopIteration") (b := true) ⟨_, Heap.get?_push_size _ rfl, rfl⟩ isSubtype_stop (wpAny_pure ?_))
  exact q _ ((b1.extBut.push _).push _)

/-- led: the i-th place is the i-th element -/
theorem setNext_led {a : Addr} {es : Array (Int × Value)} {ep i : Nat} {t : SetTable} {slot : Nat} {Q : Option (Value × Nat) → Shared → Prop} (ha : SetAt s.heap a es ep t) (G : Good es t) (hw : w.params.followText "set-order" = false)
    (hl : t.led = true) (hd : (!t.plain && decide (es.size > 1)) = false) (hs : SetTable.below t.place slot = i)
    (q : Q (match es[i]?, t.place[i]? with | some (_, x), some j => some (x, j + 1) | _, _ => none) s) : wpAny (model prog w) A (setNext a slot i ep) Q E s := by
  unfold setNext
  refine wpAny_bind (wpAny_setState_of ha rfl G.fits ?_)
  dsimp only
  unfold setsByText
  refine wpAny_bind (wpAny_bind (wpAny_askSetting (wpAny_pure ?_)))
  show wpAny _ _ (if w.params.followText "set-order" = true then _ else _) _ _ _
  rw [hw, if_neg (by decide)]
  show wpAny _ _ (if (!t.plain && decide (es.size > 1)) = true then _ else _) _ _ _
  rw [hd, if_neg (by decide)]
  refine wpAny_bind ?_
  show wpAny _ _ (if (!t.led && !es.isEmpty) = true then _ else _) _ _ _
  rw [hl, if_neg (by simp)]
  refine wpAny_pure (wpAny_pure ?_)
  rw [hs]
  exact q

/-- by the text: the i-th of an order that is drawn by the set's number -/
theorem setNext_text {a : Addr} {es : Array (Int × Value)} {ep i : Nat} {t : SetTable} {slot : Nat} {Q : Option (Value × Nat) → Shared → Prop} (ha : SetAt s.heap a es ep t) (G : Good es t) (hw : w.params.followText "set-order" = true)
    (q : Q (((pickOrder (w.params.setOrder a ep) es)[i]?).map fun e => (e.2, slot)) s) : wpAny (model prog w) A (setNext a slot i ep) Q E s := by
  unfold setNext
  refine wpAny_bind (wpAny_setState_of ha rfl G.fits ?_)
  dsimp only
  unfold setsByText
  refine wpAny_bind (wpAny_bind (wpAny_askSetting (wpAny_pure ?_)))
  show wpAny _ _ (if w.params.followText "set-order" = true then _ else _) _ _ _
  rw [hw, if_pos rfl, if_neg (by simp)]
  refine wpAny_bind ?_
  unfold setWalk
  refine wpAny_bind (wpAny_setState_of ha rfl G.fits ?_)
  dsimp only
  unfold setsByText
  refine wpAny_bind (wpAny_bind (wpAny_askSetting (wpAny_pure ?_)))
  show wpAny _ _ (if w.params.followText "set-order" = true then _ else _) _ _ _
  rw [hw, if_pos rfl]
  exact wpAny_bind (wpAny_askSetting (wpAny_pure (wpAny_pure q)))
end
end Cut
set_option Elab.async false
set_option linter.all false
set_option maxRecDepth 100000
set_option maxHeartbeats 3200000
namespace Cut
open PySem PyProof.Rows

theorem en_self : entryFor table "set_iterator.__iter__" = some Builtin.«dict_keyiterator.__iter__» := entryFor_alias (id' := "dict_keyiterator.__iter__") (by kernel_rfl) rfl (by decide +kernel) (by kernel_rfl)
theorem ar_self (a : Value) : argsOk "set_iterator.__iter__" ⟨[a], []⟩ := by
  unfold argsOk; rw [signature?_of (id := "set_iterator.__iter__") (n := ['_', '_', 'r', 'e', 't', 'i', '_', '_']) (o := ['r', 'o', 't', 'a', 'r', 'e', 't', 'i', '_', 't', 'e', 's']) (by kernel_rfl) ow_next]; kernel_rfl

section
variable {prog : Program} {w : World} {A : Around} {E : Value → Shared → Prop} {s : Shared}

theorem it_self {I a : Addr} {x : Value} {i n ep : Nat} {Q : Value → Shared → Prop} (hI : ItAt s.heap I a x i n ep) (q : Q (.ref I) s) : wpAny (model prog w) A (pyIter (.ref I)) Q E s := by
  have ty : s.TypeIs (.ref I) "set_iterator" := ⟨_, hI, rfl⟩
  refine wpAny_pyIter_slot ty sl_self (wpAny_call_entry sl_self ty en_self ?_ (ar_self _))
  exact wpAny_pure ⟨_, rfl, "set_iterator", _, ty, sl_next.lookup, q⟩

/-- the walk by places that rise, or by the text's order -/
def StI (I a : Addr) (es : Array (Int × Value)) (ep : Nat) (t : SetTable) (Rel : Nat → Nat → Prop) (i : Nat) (h : Heap) : Prop :=
  ∃ slot : Nat, ItAt h I a (.int slot 0) i es.size ep ∧ SetAt h a es ep t ∧ Rel i slot

theorem walk_int (hh : A.handled = none) {I a : Addr} {es : Array (Int × Value)} {ep : Nat} {t : SetTable} (hne : a ≠ I) (G : Good es t) (vs : List Value) (Rel : Nat → Nat → Prop)
    (hi : ∀ (s : Shared) i slot, i < es.size → Rel i slot → SetAt s.heap a es ep t → ∃ x nx, vs[i]? = some x ∧ Rel (i + 1) nx ∧
      ∀ (A' : Around) (E' : Value → Shared → Prop) (Q' : Option (Value × Nat) → Shared → Prop), Q' (some (x, nx)) s → wpAny (model prog w) A' (setNext a slot i ep) Q' E' s)
    (hd : ∀ (s : Shared) slot, Rel es.size slot → SetAt s.heap a es ep t →
      ∀ (A' : Around) (E' : Value → Shared → Prop) (Q' : Option (Value × Nat) → Shared → Prop), Q' none s → wpAny (model prog w) A' (setNext a slot es.size ep) Q' E' s) :
    Walks prog w A I [I, a] [I] es.size (fun i v => vs[i]? = some v) (StI I a es ep t Rel) where
  sub := fun b hb => by simp at hb; simp [hb]
  frame := fun i h h' st k => by
    obtain ⟨slot, x1, x2, x3⟩ := st
    exact ⟨slot, k I (by simp) _ x1, k a (by simp) _ x2, x3⟩
  item := fun i s Q E lt st q => by
    obtain ⟨slot, x1, x2, x3⟩ := st
    obtain ⟨x, nx, y1, y2, y3⟩ := hi s i slot lt x3 x2
    refine next_item x1 x2 G y3 fun h' g b => ?_
    have kp : ∀ c o, c ≠ I → s.heap.get? c = some o → h'.get? c = some o := fun c o hc e => by rw [b.2 c hc]; exact e
    exact q x h' s.toks y1 ⟨nx, g, kp a _ hne x2, y2⟩ fun c o hc e => kp c o (fun z => hc (by simp [z])) e
  done := fun s Q E st q => by
    obtain ⟨slot, x1, x2, x3⟩ := st
    exact next_stop hh x1 x2 G (hd s slot x3 x2) fun h' b => q h' s.toks fun c o hc e => b c o (fun z => hc (by simp [z])) e
  self := fun i s Q E st q => by
    obtain ⟨slot, x1, _⟩ := st
    exact it_self x1 q

/-- the walk over a set whose order is drawn -/
def StD (I a T : Addr) (es : Array (Int × Value)) (ep : Nat) (t : SetTable) (pl : List Nat) (i : Nat) (h : Heap) : Prop :=
  ItAt h I a (.ref T) i es.size ep ∧ SetAt h a es ep t ∧ h.get? T = some { cls := .type "tuple", dict := none, data := .seq (pl.map fun (k : Nat) => rawInt (k : Int)).toArray, slots := #[] }

theorem walk_drawn (hh : A.handled = none) {I a T : Addr} {es : Array (Int × Value)} {ep : Nat} {t : SetTable} (hne : a ≠ I) (hT : T ≠ I) (G : Good es t) (pl : List Nat) (hp : pl.Perm (List.range es.size)) :
    Walks prog w A I [I, a, T] [I] es.size (fun i v => (pl.map fun k => (es.getD k (0, .none)).2)[i]? = some v) (StD I a T es ep t pl) where
  sub := fun b hb => by simp at hb; simp [hb]
  frame := fun i h h' st k => ⟨k I (by simp) _ st.1, k a (by simp) _ st.2.1, k T (by simp) _ st.2.2⟩
  item := fun i s Q E lt st q => by
    obtain ⟨x1, x2, x3⟩ := st
    have hlen : pl.length = es.size := by
      have := hp.length_eq
      simpa using this
    have li : i < pl.length := by omega
    have hk : pl[i] < es.size := by
      have := hp.mem_iff.mp (List.getElem_mem li)
      simpa using this
    have ty : s.TypeIs (.ref I) "set_iterator" := ⟨_, x1, rfl⟩
    unfold pyNext
    refine wpAny_bind (wpAny_attempt (wpAny_callSpecial?_slot (name := Str.ofString "__next__") ty sl_next (wpAny_call_entry sl_next ty en_next ?_ (ar_next _))))
    unfold Builtin.«set_iterator.__next__»
    refine wpAny_bind (wpAny_pure ?_)
    refine wpAny_bind (wpAny_fieldsOf x1 rfl ?_)
    dsimp only
    refine wpAny_bind (wpAny_setEntries_of x2 rfl G.fits ?_)
    rw [if_neg (by simp)]
    refine wpAny_bind (wpAny_seqItems x3 rfl ?_)
    have e1 : ((pl.map fun (k : Nat) => rawInt (k : Int)).toArray)[(i : Int).toNat]? = some (rawInt (pl[i] : Int)) := by simp [li]
    dsimp only
    rw [e1]
    dsimp only [rawInt]
    refine wpAny_bind ?_
    unfold setNextDrawn
    refine wpAny_bind (wpAny_setState_of x2 rfl G.fits ?_)
    dsimp only
    rw [if_neg (by simp)]
    have e2 : es[(pl[i] : Int).toNat]? = some es[pl[i]] := by simp [hk]
    rw [e2]
    refine wpAny_pure ?_
    refine wpAny_bind (wpAny_setField_rec x1 (by simp) fun h1 g1 b1 => ?_)
    have kp : ∀ c o, c ≠ I → s.heap.get? c = some o → h1.get? c = some o := fun c o hc e => by rw [b1.2 c hc]; exact e
    refine wpAny_pure ⟨_, rfl, wpAny_pure (q _ h1 s.toks ?_ ⟨g1, kp a _ hne x2, kp T _ hT x3⟩ fun c o hc e => kp c o (fun z => hc (by simp [z])) e)⟩
    simp [li, hk, Array.getD]
  done := fun s Q E st q => by
    obtain ⟨x1, x2, x3⟩ := st
    have hlen : pl.length = es.size := by
      have := hp.length_eq
      simpa using this
    have ty : s.TypeIs (.ref I) "set_iterator" := ⟨_, x1, rfl⟩
    unfold pyNext
    refine wpAny_bind (wpAny_attempt (wpAny_callSpecial?_slot (name := Str.ofString "__next__") ty sl_next (wpAny_call_entry sl_next ty en_next ?_ (ar_next _))))
    unfold Builtin.«set_iterator.__next__»
    refine wpAny_bind (wpAny_pure ?_)
    refine wpAny_bind (wpAny_fieldsOf x1 rfl ?_)
    dsimp only
    refine wpAny_bind (wpAny_setEntries_of x2 rfl G.fits ?_)
    rw [if_neg (by simp)]
    refine wpAny_bind (wpAny_seqItems x3 rfl ?_)
    have e1 : ((pl.map fun (k : Nat) => rawInt (k : Int)).toArray)[((es.size : Nat) : Int).toNat]? = none := by simp [hlen]
    dsimp only
    rw [e1]
    dsimp only
    refine wpAny_bind (wpAny_setField_rec x1 (by simp) fun h0 g0 b0 => ?_)
    refine wpAny_bind (wpAny_setField_rec (s := { s with heap := h0 }) g0 (by simp) fun h1 g1 b1 => ?_)
    refine wpAny_bind (show wpAny _ _ (newExc (.type "StopIteration") []) _ _ _ from ?_)
    simp only [newExc, newTuple]
    refine wpAny_bind (wpAny_newObj_type ?_ (by size_fits))
    refine wpAny_bind (m := firstArgMember _ _) (wpAny_of_eq (a := Value.none) (by first | rfl | (simp only [firstArgMember]; rfl)) (wpAny_newObj_type ?_ (by size_fits)))
    simp only [raiseNew]
    refine wpAny_bind (wpAny_handled ?_)
    rw [show A.in1.handled = none from hh]
    refine wpAny_bind (wpAny_pure (wpAny_throw ?_))
    refine wpAny_bind (wpAny_isInstance (T := "StopIteration") (b := true) ⟨_, Heap.get?_push_size _ rfl, rfl⟩ isSubtype_stop (wpAny_pure ?_))
    have kp := ((b0.trans b1).extBut.push { cls := .type "tuple", dict := none, data := .seq #[] }).push
    exact q _ s.toks fun c o hc e => (((b0.trans b1).extBut.push _).push _) c o (fun z => hc (by simp [z])) e
  self := fun i s Q E st q => it_self st.1 q
end
end Cut
set_option Elab.async false
set_option linter.all false
set_option maxRecDepth 100000
set_option maxHeartbeats 3200000
namespace Cut
open PySem PyProof.Rows

theorem intsAre_of : ∀ (l : List (Int × Value)), (∀ e ∈ l, EleI e) → IntsAre (l.map (·.2)) (l.map fun e => keyI e.2)
  | [], _ => .nil
  | e :: l, h => by
    obtain ⟨k, u, rfl⟩ := h e (List.mem_cons_self ..)
    exact .cons k u (intsAre_of l fun e he => h e (List.mem_cons_of_mem _ he))

section
variable {prog : Program} {w : World} {A : Around} {E : Value → Shared → Prop} {s : Shared}

/-- what walks over a set: its items are the set's ints, in some order -/
def Over (prog : Program) (w : World) (A : Around) (σ : List Int) (a : Addr) (L : Nat) (I : Addr) (h : Heap) : Prop :=
  ∃ (fp : List Addr) (n : Nat) (vs : List Value) (τ : List Int) (St : Nat → Heap → Prop), Walks prog w A I fp [I] n (fun i v => vs[i]? = some v) St ∧ St 0 h ∧ (∀ b ∈ fp, b < h.objs.size) ∧ I ∈ fp ∧ IntsAre vs τ ∧ τ.Perm σ ∧ vs.length = n ∧ ∀ b ∈ fp, b = a ∨ L ≤ b

theorem iter_set {a : Addr} {σ : List Int} {Q : Value → Shared → Prop} (hh : A.handled = none) (S : SetI w s.heap a σ) (hb : σ.length < scanBound)
    (q : ∀ I h' d', Over prog w A σ a s.heap.objs.size I h' → (∀ b o, s.heap.get? b = some o → h'.get? b = some o) → s.heap.objs.size ≤ I → Q (.ref I) { s with heap := h', drawn := d' }) : wpAny (model prog w) A (pyIter (.ref a)) Q E s := by
  obtain ⟨es, ep, t, x, x2, x3, G, x5⟩ := S
  have ty : s.TypeIs (.ref a) "set" := ⟨_, x, rfl⟩
  have ha : a < s.heap.objs.size := Heap.lt_size x
  have hsz : es.size ≤ sizeLine := by
    have := x3.length_eq
    simp only [List.length_map, Array.length_toList] at this
    exact fits_of_scanBound (by omega)
  refine wpAny_pyIter_slot ty sl_iter (wpAny_call_entry sl_iter ty en_iter ?_ (ar_iter _))
  unfold Builtin.«frozenset.__iter__» Builtin.Frozenset.slot0
  refine wpAny_bind (wpAny_bind (wpAny_pure (wpAny_pure ?_)))
  unfold Builtin.Frozenset.sizeOf
  refine wpAny_bind (wpAny_bind (wpAny_setEntries_of x rfl G.fits (wpAny_pure ?_)))
  unfold setDrawn setsByText
  refine wpAny_bind (wpAny_bind (wpAny_setState_of x rfl G.fits ?_))
  dsimp only
  refine wpAny_bind (wpAny_bind (wpAny_askSetting (wpAny_pure (wpAny_pure ?_))))
  show wpAny _ _ (if (!w.params.followText "set-order" && (!t.plain && decide (es.size > 1))) = true then _ else _) _ _ _
  by_cases hc : (!w.params.followText "set-order" && (!t.plain && decide (es.size > 1))) = true
  · rw [if_pos hc]
    refine wpAny_bind (wp_draw es.size (List.range es.size) _ _ List.length_range fun r d hp => ?_)
    have hrl : r.length = es.size := by
      have := hp.length_eq
      simpa using this
    have hes : es.size ≤ sizeLine := hsz
    refine wpAny_bind (wpAny_newTuple ?_ (by rw [List.length_map, hrl]; exact hes))
    have g1 := Heap.get?_push_of_some { cls := .type "tuple", data := .seq (r.map fun (k : Nat) => rawInt (k : Int)).toArray } x
    refine wpAny_bind (wpAny_setEpoch_of (s := { s with heap := _, drawn := d }) g1 rfl G.fits ?_)
    refine wpAny_bind (wpAny_newObj_type (wpAny_pure ⟨_, rfl, "set_iterator", _, ⟨_, Heap.get?_push_size _ rfl, rfl⟩, sl_next.lookup, ?_⟩))
    have z1 : (s.heap.push { cls := .type "tuple", data := .seq (r.map fun (k : Nat) => rawInt (k : Int)).toArray }).objs.size = s.heap.objs.size + 1 := Heap.size_push ..
    refine q _ _ _ ⟨_, _, r.map fun k => (es.getD k (0, .none)).2, r.map fun k => keyI (es.getD k (0, .none)).2, _, walk_drawn (T := s.heap.objs.size) (t := t) (ep := ep) hh ?n1 ?n2 G r hp, ⟨Heap.get?_push_size _ rfl, Heap.get?_push_of_some _ g1, Heap.get?_push_of_some _ (Heap.get?_push_size _ rfl)⟩, ?n3, by simp, ?n4, ?n5, by rw [List.length_map, hrl], ?n6⟩ (fun b o e => Heap.get?_push_of_some _ (Heap.get?_push_of_some _ e)) (by show s.heap.objs.size ≤ _; rw [z1]; exact Nat.le_succ _)
    case n1 => show a ≠ _; rw [z1]; exact Nat.ne_of_lt (Nat.lt_succ_of_lt ha)
    case n2 => show s.heap.objs.size ≠ _; rw [z1]; exact Nat.ne_of_lt (Nat.lt_succ_self _)
    case n3 =>
      intro b hb
      rw [Heap.size_push, z1]
      rw [z1] at hb
      simp only [List.mem_cons, List.not_mem_nil, or_false] at hb
      rcases hb with rfl | rfl | rfl
      · exact Nat.lt_succ_self _
      · exact Nat.lt_succ_of_lt (Nat.lt_succ_of_lt ha)
      · exact Nat.lt_succ_of_lt (Nat.lt_succ_self _)
    case n6 =>
      intro b hb
      rw [z1] at hb
      simp only [List.mem_cons, List.not_mem_nil, or_false] at hb
      rcases hb with rfl | rfl | rfl
      · exact .inr (Nat.le_succ _)
      · exact .inl rfl
      · exact .inr (Nat.le_refl _)
    case n4 =>
      have e1 : (r.map fun k => (es.getD k (0, .none)).2) = (r.map fun k => es.getD k (0, .none)).map (·.2) := by rw [List.map_map]; rfl
      have e2 : (r.map fun k => keyI (es.getD k (0, .none)).2) = (r.map fun k => es.getD k (0, .none)).map fun e => keyI e.2 := by rw [List.map_map]; rfl
      rw [e1, e2]
      refine intsAre_of _ fun e he => ?_
      obtain ⟨k, hk, rfl⟩ := List.mem_map.mp he
      have lk : k < es.size := by simpa using hp.mem_iff.mp hk
      have e3 : es.getD k (0, .none) = es[k] := by simp [Array.getD, lk]
      rw [e3]
      exact x2 _ (by simp)
    case n5 =>
      refine (hp.map _).trans (List.Perm.trans (List.Perm.of_eq ?_) x3)
      refine List.ext_getElem (by simp) fun k h1 h2 => ?_
      have lk : k < es.size := by simpa using h1
      simp [Array.getD, lk]
  · rw [if_neg hc]
    refine wpAny_bind (wpAny_pure ?_)
    refine wpAny_bind (wpAny_setEpoch_of x rfl G.fits ?_)
    refine wpAny_bind (wpAny_newObj_type (wpAny_pure ⟨_, rfl, "set_iterator", _, ⟨_, Heap.get?_push_size _ rfl, rfl⟩, sl_next.lookup, ?_⟩))
    have fpb : ∀ (o : Obj), ∀ b ∈ [s.heap.objs.size, a], b < (s.heap.push o).objs.size := by
      intro o b hb
      rw [Heap.size_push]
      simp only [List.mem_cons, List.not_mem_nil, or_false] at hb
      rcases hb with rfl | rfl
      · exact Nat.lt_succ_self _
      · exact Nat.lt_succ_of_lt ha
    have ab : ∀ b ∈ [s.heap.objs.size, a], b = a ∨ s.heap.objs.size ≤ b := by
      intro b hb
      simp only [List.mem_cons, List.not_mem_nil, or_false] at hb
      rcases hb with rfl | rfl
      · exact .inr (Nat.le_refl _)
      · exact .inl rfl
    by_cases hw : w.params.followText "set-order" = true
    · have pp := pickOrder_perm (w.params.setOrder a ep) es
      have pl : (pickOrder (w.params.setOrder a ep) es).size = es.size := by
        have := pp.length_eq
        simpa using this
      refine q _ _ s.drawn ⟨_, _, (pickOrder (w.params.setOrder a ep) es).toList.map (·.2), (pickOrder (w.params.setOrder a ep) es).toList.map fun e => keyI e.2, _,
        walk_int (t := t) (ep := ep) (es := es) hh (Nat.ne_of_lt ha) G _ (fun _ _ => True) ?m1 ?m2, ⟨0, Heap.get?_push_size _ rfl, Heap.get?_push_of_some _ x, trivial⟩, fpb _, by simp, intsAre_of _ fun e he => x2 e (pp.mem_iff.mp he), (pp.map _).trans x3, by simp [pl], ab⟩
        (fun b o e => Heap.get?_push_of_some _ e) (Nat.le_refl _)
      case m1 =>
        intro s i slot lt _ g
        have li : i < (pickOrder (w.params.setOrder a ep) es).size := by omega
        refine ⟨(pickOrder (w.params.setOrder a ep) es)[i].2, slot, by simp [li], trivial, fun A' E' Q' q' => setNext_text g G hw ?_⟩
        simp only [Array.getElem?_eq_getElem li, Option.map_some]
        exact q'
      case m2 =>
        intro s slot _ g A' E' Q' q'
        refine setNext_text g G hw ?_
        rw [Array.getElem?_eq_none (by omega)]
        exact q'
    · have hwf : w.params.followText "set-order" = false := by simpa using hw
      have hl : t.led = true := by rw [x5, hwf]; rfl
      have hd : (!t.plain && decide (es.size > 1)) = false := by
        rw [hwf] at hc
        simpa using hc
      refine q _ _ s.drawn ⟨_, _, es.toList.map (·.2), es.toList.map fun e => keyI e.2, _,
        walk_int (t := t) (ep := ep) (es := es) hh (Nat.ne_of_lt ha) G _ (fun i slot => SetTable.below t.place slot = i) ?m1 ?m2, ⟨0, Heap.get?_push_size _ rfl, Heap.get?_push_of_some _ x, ?m3⟩, fpb _, by simp, intsAre_of _ x2, x3, by simp, ab⟩
        (fun b o e => Heap.get?_push_of_some _ e) (Nat.le_refl _)
      case m1 =>
        intro s i slot lt hr g
        have lp : i < t.place.size := by rw [G.size]; exact lt
        refine ⟨es[i].2, t.place[i] + 1, by simp [lt], ?_, fun A' E' Q' q' => setNext_led g G hwf hl hd hr ?_⟩
        · exact below_walk G.rise (by omega) (fun z => nomatch z) fun k hk e => by
            obtain rfl : k = i := by omega
            rfl
        · rw [Array.getElem?_eq_getElem lt, Array.getElem?_eq_getElem lp]
          exact q'
      case m2 =>
        intro s slot hr g A' E' Q' q'
        refine setNext_led g G hwf hl hd hr ?_
        rw [Array.getElem?_eq_none (Nat.le_refl _)]
        exact q'
      case m3 =>
        exact below_walk G.rise (Nat.zero_le _) (fun _ => rfl) fun k hk e => by cases e
end
end Cut
set_option Elab.async false
set_option linter.all false
set_option maxRecDepth 100000
set_option maxHeartbeats 3200000
namespace Cut
open PySem PyProof.Rows
section
variable {prog : Program} {w : World} {A : Around} {E : Value → Shared → Prop} {s : Shared}

theorem hint_set {a : Addr} {Q : Bool → Shared → Prop} (ty : s.TypeIs (.ref a) "set") (q : Q false s) : wpAny (model prog w) A (Builtin.List.listLengthHint (.ref a)) Q E s := by
  unfold Builtin.List.listLengthHint
  refine wpAny_bind (wpAny_specialOf ty lk_len ?_)
  generalize hid : ("set.__len__" : String) = id0
  wp_delta
  rw [show splitId id0 = some ("set", "__len__") from by subst hid; decide +kernel]
  subst hid
  refine wpAny_bind (wpAny_isInstance (T := "set") (b := true) ty (by rw [isSubtype_type]; kernel_rfl) ?_)
  refine wpAny_ite_split (fun z => absurd z (by decide)) fun _ => ?_
  refine wpAny_ite_split (fun _ => ?_) fun z => absurd (by decide +kernel) z
  exact wpAny_bind (wpAny_typeOf ty (wpAny_pure q))

theorem items_ints {vs : List Value} {τ : List Int} {acc : Array Value} (hI : IntsAre vs τ) (h : ItemsOf (fun i v => vs[i]? = some v) acc vs.length) : acc.toList = vs := by
  refine List.ext_getElem? fun i => ?_
  have hz := h.1
  by_cases hi : i < vs.length
  · have hj : i < acc.size := by omega
    have e : acc[i]? = some acc[i] := Array.getElem?_eq_getElem hj
    rw [Array.getElem?_toList, e]
    exact (h.2 i _ e).symm
  · have h1 : vs[i]? = none := List.getElem?_eq_none (by omega)
    have h2 : acc.toList[i]? = none := List.getElem?_eq_none (by rw [Array.length_toList]; omega)
    rw [h1, h2]

theorem collect_set {a : Addr} {σ : List Int} {Q : List Value → Shared → Prop} (hh : A.handled = none) (S : SetI w s.heap a σ) (hb : σ.length < scanBound)
    (q : ∀ vs τ h' d' tk, IntsAre vs τ → τ.Perm σ → (∀ b o, s.heap.get? b = some o → h'.get? b = some o) → s.heap.objs.size < h'.objs.size → Q vs { s with heap := h', drawn := d', toks := tk }) : wpAny (model prog w) A (collect (.ref a)) Q E s := by
  have ha : a < s.heap.objs.size := by
    obtain ⟨es, ep, t, x, _⟩ := id S
    exact Heap.lt_size x
  unfold collect
  refine wpAny_bind (wpAny_runValue (codeAny_builtin PySem.F.entry_proto_collect ?_))
  rw [Around.under_plainId PySem.F.plain_proto_collect]
  show wpAny _ A.in1 (newList [] >>= fun l => again (.builtin "list.__iadd__" ⟨[l, .ref a], []⟩)) _ _ _
  refine wpAny_bind (wpAny_newObj_type (wpAny_pure ⟨plainId_quiet PySem.F.plain_list_iadd _, codeAny_builtin PySem.F.entry_list_iadd ?_⟩))
  rw [Around.under_plainId PySem.F.plain_list_iadd]
  show wpAny _ A.in1 (Builtin.List.listExtendWith (.ref s.heap.objs.size) (.ref a) (.ref s.heap.objs.size)) _ _ _
  have S1 : SetI w (s.heap.push { cls := .type "list", data := .seq ([] : List Value).toArray }) a σ := S.at fun o e => Heap.get?_push_of_some _ e
  have ty1 : Shared.TypeIs { s with heap := s.heap.push { cls := .type "list", data := .seq ([] : List Value).toArray } } (.ref a) "set" := by
    obtain ⟨es, ep, t, x, _⟩ := id S1
    exact ⟨_, x, rfl⟩
  have hS : (s.heap.push { cls := .type "list", data := .seq ([] : List Value).toArray }).get? s.heap.objs.size = some { cls := .type "list", data := .seq #[] 0 } := Heap.get?_push_size _ rfl
  unfold Builtin.List.listExtendWith
  refine wpAny_bind (wpAny_typeOf ty1 ?_)
  have k1 : Builtin.List.listSameRef (.ref s.heap.objs.size) (.ref a) = false := by
    simp only [Builtin.List.listSameRef]
    exact beq_eq_false_iff_ne.mpr (Nat.ne_of_gt ha)
  rw [if_neg (by rw [k1]; decide)]
  refine wpAny_bind (iter_set (A := A.in1) hh S1 hb fun I h1 d1 ov kp le => ?_)
  have ty2 : Shared.TypeIs { s with heap := h1, drawn := d1 } (.ref a) "set" := by
    obtain ⟨es, ep, t, x, _⟩ := id S1
    exact ⟨_, kp _ _ x, rfl⟩
  refine wpAny_bind (wpAny_holding (hint_set ty2 ?_))
  rw [if_pos (by decide)]
  refine wpAny_bind (wpAny_rule (wpAny_bind ?_))
  have hS1 := kp _ _ hS
  show wpAny _ _ (updateSeq s.heap.objs.size (·.push .none) >>= fun _ => updateSeq s.heap.objs.size (·.pop)) _ _ _
  refine wpAny_bind (wpAny_updateSeq (s := { s with heap := h1, drawn := d1 }) hS1 rfl ?_)
  have hS2 := Heap.get?_update_self (Obj.mapSeq (·.push Value.none)) hS1 rfl
  refine wpAny_updateSeq (s := { s with heap := _, drawn := d1 }) (hz := by seq_fits) hS2 rfl ?_
  have hS3 := Heap.get?_update_self (Obj.mapSeq (·.pop)) hS2 rfl
  obtain ⟨fp, n, vs, τ, St, W, st, fpb, hI, ia, pm, hn, ab⟩ := ov
  have hSf : s.heap.objs.size ∉ fp := by
    intro z
    rcases ab _ z with e | e
    · exact absurd e (Nat.ne_of_gt ha)
    · rw [Heap.size_push] at e
      exact Nat.not_succ_le_self _ e
  subst hn
  have hn : vs.length ≤ sizeLine := by
    have e1 := IntsAre.length ia
    have e2 := pm.length_eq
    exact fits_of_scanBound (by omega)
  have oth : ∀ b o, b ≠ s.heap.objs.size → h1.get? b = some o → ((h1.update s.heap.objs.size (Obj.mapSeq (·.push Value.none))).update s.heap.objs.size (Obj.mapSeq (·.pop))).get? b = some o :=
    fun b o hb e => (Heap.get?_update_other _ _ (Ne.symm hb)).trans ((Heap.get?_update_other _ _ (Ne.symm hb)).trans e)
  refine wpAny_pure ⟨plainId_quiet PySem.F.plain_extend_loop _, codeAny_extend_loopS W.toS hn _ hSf _ vs.length 0 _ #[] _ rfl (Nat.zero_le _) (W.frame 0 _ _ st fun b z o e => oth b o (fun y => hSf (y ▸ z)) e) hS3 (ItemsOf.nil _) fun s' acc c' m g hacc => ?_⟩
  show wpAny _ A (load s.heap.objs.size >>= _) _ _ s'
  refine wpAny_bind (wpAny_load g (wpAny_pure ?_))
  rw [items_ints ia hacc]
  obtain ⟨h', g', d', tk', os'⟩ := s'
  obtain rfl : g' = s.gens := m.gens
  obtain rfl : d' = d1 := m.drawn
  obtain rfl : os' = s.os := m.os
  refine q vs τ h' d' tk' ia pm (fun b o e => m.heap b o ?_ (oth b o (Nat.ne_of_lt (Heap.lt_size e)) (kp b o (Heap.get?_push_of_some _ e)))) (Heap.lt_size g)
  intro z
  have lt := Heap.lt_size e
  rcases List.mem_cons.mp z with y | y
  · exact absurd y (Nat.ne_of_lt lt)
  · rw [List.mem_singleton] at y
    rw [Heap.size_push] at le
    exact absurd (Nat.lt_of_lt_of_le lt (Nat.le_of_succ_le le)) (by rw [y]; exact Nat.lt_irrefl _)

theorem sorted_set {a : Addr} {σ : List Int} {Q : Value → Shared → Prop} (hh : A.handled = none) (S : SetI w s.heap a σ) (hb : σ.length < 64)
    (q : ∀ l out τ h' d' tk, IntsAre out τ → τ.Perm σ → τ.Pairwise (· ≤ ·) → (∃ n, h'.get? l = some (seqObj "list" out.toArray n)) → s.heap.objs.size ≤ l → (∀ b o, s.heap.get? b = some o → h'.get? b = some o) → Q (.ref l) { s with heap := h', drawn := d', toks := tk }) :
    wpAny (model prog w) A (call (.builtin "sorted") [.ref a]) Q E s := by
  refine Calls.call_function_entry kind_sorted plain_sorted entry_sorted (args_sorted1 _) ?_
  unfold Builtin.«sorted»
  refine wpAny_bind (m := checkCount "sorted" 1 1 _) (wpAny_pure (wpAny_bind (collect_set (A := A.in1) hh S (by unfold scanBound; omega) fun vs τ h1 d1 tk1 ia pm kp lt1 => ?_)))
  have hl : vs.length < 64 := by
    have e1 := IntsAre.length ia
    have e2 := pm.length_eq
    omega
  refine wpAny_bind (wpAny_newList ?_)
  have g : (h1.push (seqObj "list" vs.toArray 0)).get? h1.objs.size = some (seqObj "list" vs.toArray 0) := Heap.get?_push_size _ rfl
  refine wpAny_bind (wpAny_holding (wpAny_call_entry slot_list_sort ⟨_, g, rfl⟩ entry_list_sort (list_sort_tree g ia hl fun out ns' a1 a2 a3 => ⟨_, rfl, ?_⟩) (args_list_sort _)))
  have le : s.heap.objs.size ≤ h1.objs.size := Nat.le_of_lt lt1
  refine wpAny_pure ⟨_, rfl, q h1.objs.size out.toList ns' _ _ _ a1 (a2.trans pm) a3 ?_ le fun b o e => ?_⟩
  · have y1 := get?_update_seq g (fun _ => #[])
    have y2 := Heap.get?_push_of_some (seqObj "list" #[] 0) (Heap.get?_push_of_some (seqObj "tuple" vs.toArray 0) y1)
    have y3 := get?_update_seq y2 (fun _ => out)
    rw [Array.toArray_toList]
    exact ⟨_, y3⟩
  · have nb : b ≠ h1.objs.size := Nat.ne_of_lt (Heap.lt_size (kp b o e))
    have y0 := Heap.get?_push_of_some (seqObj "list" vs.toArray 0) (kp b o e)
    have y1 := (Heap.get?_update_other (h1.push (seqObj "list" vs.toArray 0)) (Obj.mapSeq fun _ => #[]) (Ne.symm nb)).trans y0
    have y2 := Heap.get?_push_of_some (seqObj "list" #[] 0) (Heap.get?_push_of_some (seqObj "tuple" vs.toArray 0) y1)
    exact (Heap.get?_update_other _ _ (Ne.symm nb)).trans y2
end
end Cut
set_option Elab.async false
set_option linter.all false
set_option maxRecDepth 100000
set_option maxHeartbeats 4000000
namespace L2
open PySem PySem.Spec PyProof.Rows
/-! ### sorted(set(a list of ints)) -/
theorem ints_of_vals : ∀ {ns : List Int} {us : List Value}, Vals (ns.map V.int) us → IntsAre us ns
  | [], _, r => by rw [List.map_nil] at r; cases r; exact .nil
  | z :: zs, _, r => by
    rw [List.map_cons] at r
    cases r with
    | cons h t =>
      obtain ⟨k, rfl⟩ := h
      exact .cons _ _ (ints_of_vals t)
theorem vals_of_ints : ∀ {us : List Value} {ns : List Int}, IntsAre us ns → Vals (ns.map V.int) us
  | _, _, .nil => .nil
  | _, _, .cons n t r => .cons ⟨_, rfl⟩ (vals_of_ints r)
theorem Inv.laidD {X : Cx} {pins : List (Addr × Obj)} {σ : St} {H : Hp} {s : Shared} {h' : Heap} {a : Addr} {o : HO} {t' : Nat} {d' : Drawn} (I : Inv X pins σ H s) (k : ∀ b u, s.heap.get? b = some u → h'.get? b = some u) (hp : s.heap.objs.size ≤ a) (new : ObjOk X.prog X.w (upd H a o) h' a o) :
    Inv X pins σ (upd H a o) { s with heap := h', drawn := d', toks := t' } := by
  have J := I.laid (t' := t') k hp new
  generalize hs1 : ({ s with heap := h', toks := t' } : Shared) = s1 at J
  have e : ({ s with heap := h', drawn := d', toks := t' } : Shared) = { s1 with heap := s1.heap, gens := s1.gens, drawn := d', toks := s1.toks } := by subst hs1; rfl
  rw [e]
  exact J.step (g' := s1.gens) (t' := s1.toks) (d' := d') (h' := s1.heap) (ch := []) (fun _ z => nomatch z) (fun b o _ _ _ e _ => e) (fun b o _ _ _ e _ => ⟨o.slots, e⟩) (fun _ _ _ _ n => n) (fun b o _ e => ⟨o, e⟩) (fun _ _ e => e) (fun _ _ _ e => e) (fun b ps e => ⟨#[], by rw [e]; simp⟩) (fun m hm => hm) J.hok J.bare
def tSort (K : PySem.W.Frag) (ta : TE) : TE := fun σ H Q => ta σ H fun v H1 => ∃ a ns, v = .ref a ∧ SqL K H1 a (ns.map V.int) ∧ ns.length ≤ 2000 ∧ (Cut.ddup ns).length < 64 ∧
  ∀ (l : Addr) (τ : List Int), H1 l = none → τ.Pairwise (· < ·) → (∀ x, x ∈ τ ↔ x ∈ ns) → τ.length = (Cut.ddup ns).length → Q (.ref l) (upd H1 l (.lst (τ.map V.int)))
theorem strict_of {τ σ : List Int} (pm : τ.Perm σ) (nd : σ.Nodup) (le : τ.Pairwise (· ≤ ·)) : τ.Pairwise (· < ·) := by
  have nt : τ.Nodup := pm.nodup_iff.mpr nd
  exact (List.pairwise_and_iff.mpr ⟨le, nt⟩).imp fun {a b} h => by
    have h1 := h.1
    have h2 : a ≠ b := h.2
    omega
theorem pe_sortset {X : Cx} {a : Expr} {ta : TE} {p p2 pos pos2 : Pos} (hc : X.calm = true) (hg : Gl X "sorted") (hm : X.mg "sorted" = none) (hg2 : Gl X "set") (hm2 : X.mg "set" = none) (ha : PE X a ta)
    (hs : starEach [a] X.env = [(false, eval a X.env)] := by rfl) (hs2 : starEach [.Call (.Name "set" p2) [a] [] pos2] X.env = [(false, eval (.Call (.Name "set" p2) [a] [] pos2) X.env)] := by rfl) :
    PE X (.Call (.Name "sorted" p) [.Call (.Name "set" p2) [a] [] pos2] [] pos) (tSort X.K ta) := by
  intro pins s σ H Q I h
  refine wpAny_Call_Name_kw (ld_blt I hg hm boot_sorted ?_ (by decide) (by decide))
  refine PyProof.Rows.callWith_builtin1 ?_ hs2 rfl
  rw [hs2]
  show wpAny _ _ (spliced ((false, eval (.Call (.Name "set" p2) [a] [] pos2) X.env) :: backTo pos [])) _ _ s
  refine Calls.spliced_cons ?_
  refine wpAny_Call_Name_kw (ld_blt I hg2 hm2 boot_set ?_ (by decide) (by decide))
  refine PyProof.Rows.callWith_type1 ?_ hs rfl
  rw [hs]
  show wpAny _ _ (spliced ((false, eval a X.env) :: backTo pos2 [])) _ _ s
  refine Calls.spliced_cons (thn (ha pins s σ H _ I h) fun u s1 ⟨v, H1, I1, r1, q1⟩ => Calls.spliced_nil ?_)
  obtain ⟨b, ns, e, hq, hn, hd, q⟩ := q1
  subst e
  obtain rfl : u = Value.ref b := r1
  obtain ⟨its, rv, pl, hz⟩ := I1.list hq
  have hh := I1.ok.hd hc
  have hl1 := rv.length
  rw [List.length_map] at hl1
  refine Cut.set_list hh pl.isList (ints_of_vals rv) (by rw [List.size_toArray, ← hl1]; unfold scanBound; omega) fun h1 tk S kp => ?_
  refine Calls.spliced_nil ?_
  refine Cut.sorted_set hh S hd fun l out τ h2 d2 tk2 ia pm le ⟨n, hl⟩ hle kp2 => ?_
  have lt : s1.heap.objs.size < h1.objs.size := by
    obtain ⟨es, ep, t, x, _⟩ := id S
    exact Heap.lt_size x
  have hle' : s1.heap.objs.size ≤ l := Nat.le_trans (Nat.le_of_lt lt) hle
  have hlen : τ.length = (Cut.ddup ns).length := pm.length_eq
  refine ⟨.ref l, upd H1 l (.lst (τ.map V.int)), ?_, rfl, q l τ (I1.hok.fresh hle') (strict_of pm (Cut.ddup_nodup ns) le) (fun x => (pm.mem_iff).trans (Cut.ddup_mem x ns)) hlen⟩
  refine I1.laidD (fun b u e => kp2 b u (kp b u (Heap.lt_size e) e)) hle' ?_
  have hsz : (τ.map V.int).length ≤ sizeLine := by
    rw [List.length_map]
    exact Nat.le_of_lt (Nat.lt_of_lt_of_le (by omega : τ.length < 64) (by decide))
  exact ⟨hsz, out, n, vals_of_ints ia, hl⟩
end L2
set_option Elab.async false
set_option linter.all false
set_option maxRecDepth 100000
set_option maxHeartbeats 4000000
namespace L2
open PySem PySem.Spec PyProof.Rows
/-! ### zip(two lists), its pairs taken apart at once -/
def Itz (K : PySem.W.Frag) (a b : Addr) : It :=
  ⟨fun i H => ∃ xs ys x y, SqL K H a xs ∧ SqL K H b ys ∧ xs[i]? = some x ∧ ys[i]? = some y,
   fun i H v H' => ∃ t x y, H t = none ∧ H' = upd H t (.tup [x, y]) ∧ v = .ref t ∧ (∀ xs, SqL K H a xs → xs[i]? = some x) ∧ ∀ ys, SqL K H b ys → ys[i]? = some y,
   fun i H => ∃ xs ys, SqL K H a xs ∧ SqL K H b ys ∧ (xs.length ≤ i ∨ ys.length ≤ i)⟩
def ZipSt (a b z TI TO i1 i2 : Addr) (i : Nat) (h : Heap) : Prop := IsZip h z TI TO .none ∧ IsPair h TI (.ref i1) (.ref i2) ∧ (∃ c d, IsPair h TO c d) ∧ h.IsListIter i1 a i ∧ h.IsListIter i2 b i
theorem turn_zip {P : Program} {w : World} {K : PySem.W.Frag} {es : List Expr} {k : Nat} {tp : Pos} (a b z TI TO i1 i2 : Addr) (D : ZipApart z TI TO i1 i2 a b) :
    Turn P w K (.Tuple es k tp) (Itz K a b) [z, TI, TO, i1, i2] z (ZipSt a b z TI TO i1 i2) where
  mem := by simp
  obj := fun i h st c hc => by
    obtain ⟨hz, hTI, ⟨c1, d1, hTO⟩, ⟨o1, e1, _, q1⟩, ⟨o2, e2, _, q2⟩⟩ := st
    simp only [List.mem_cons, List.not_mem_nil, or_false] at hc
    rcases hc with rfl | rfl | rfl | rfl | rfl
    · exact ⟨_, hz, fun v y => by cases y⟩
    · exact ⟨_, hTI, fun v y => by cases y⟩
    · exact ⟨_, hTO, fun v y => by cases y⟩
    · exact ⟨o1, e1, fun v y => by rw [q1] at y; cases y⟩
    · exact ⟨o2, e2, fun v y => by rw [q2] at y; cases y⟩
  keep := fun i h h' st kp => by
    obtain ⟨hz, hTI, ⟨c1, d1, hTO⟩, h1, h2⟩ := st
    exact ⟨kp z (by simp) _ hz, kp TI (by simp) _ hTI, ⟨c1, d1, kp TO (by simp) _ hTO⟩, h1.at fun o q => kp i1 (by simp) o q, h2.at fun o q => kp i2 (by simp) o q⟩
  item := by
    intro X hP hw hK hc i pins s σ H E I hf st hg
    subst hP hw hK
    obtain ⟨hz, hTI, ⟨c1, d1, hTO⟩, h1, h2⟩ := st
    obtain ⟨xs, ys, x, y, hqa, hqb, hx, hy⟩ := hg
    obtain ⟨its, rva, pa, _⟩ := I.list hqa
    obtain ⟨jts, rvb, pb, _⟩ := I.list hqb
    obtain ⟨u, hu, ru⟩ := rva.get hx
    obtain ⟨v, hv, rv⟩ := rvb.get hy
    refine wpAny_pyNext_zip_item D hz hTI hTO h1 h2 pa.isList pb.isList (x := u) (y := v) (by simpa using hu) (by simpa using hv) fun h3 a1 a2 a3 a4 a5 a6 kp => ?_
    refine ⟨_, rfl, wpAny_letOwnedTupleGo_zip a1 fun h4 z4 sb => ?_⟩
    have ltz : ∀ {c o}, s.heap.get? c = some o → c < s.heap.objs.size := fun e => Heap.lt_size e
    have fpz : ∀ c ∈ [z, TI, TO, i1, i2], c < s.heap.objs.size := fun c hc => by
      simp only [List.mem_cons, List.not_mem_nil, or_false] at hc
      rcases hc with rfl | rfl | rfl | rfl | rfl
      · exact ltz hz
      · exact ltz hTI
      · exact ltz hTO
      · obtain ⟨_, q, _⟩ := h1; exact ltz q
      · obtain ⟨_, q, _⟩ := h2; exact ltz q
    have kp2 : ∀ c o, c ∉ [z, TI, TO, i1, i2] → s.heap.get? c = some o → h4.get? c = some o := fun c o hc q => by
      simp only [List.mem_cons, List.not_mem_nil, or_false, not_or] at hc
      exact (sb.2 c hc.1).trans (kp c o hc.1 hc.2.2.1 hc.2.2.2.1 hc.2.2.2.2 q)
    have tup2 : h4.get? s.heap.objs.size = some { cls := .type "tuple", data := .seq #[u, v] } := (sb.2 _ (Nat.ne_of_gt (ltz hz))).trans a5
    have Hnew : H s.heap.objs.size = none := I.hok.fresh (Nat.le_refl _)
    have ne1 : ∀ c o, H c = some o → c ∉ [z, TI, TO, i1, i2] := fun c o q hc => by
      rw [(hf c hc).1] at q
      cases q
    have I1 : Inv X pins σ (upd H s.heap.objs.size (.tup [x, y])) { s with heap := h4 } := by
      refine I.step (g' := s.gens) (t' := s.toks) (d' := s.drawn) (ch := [z, TI, TO, i1, i2]) (fun c hc => ?_) (fun c o _ _ hc q _ => kp2 c o hc q) (fun c o _ _ hc q _ => ⟨o.slots, kp2 c o hc q⟩) (fun c o hc q n => ?_) (fun c o hc q => ⟨o, kp2 c o hc q⟩) (fun c zs q => ?_) (fun c o v q => ?_) (fun c ps q => ?_) (fun m hm => ?_) ?_ I.bare
      · obtain ⟨_, f1, _, f3, f4, f5⟩ := hf c hc
        exact ⟨f3, f1, f4, f5⟩
      · rw [upd_ne (Nat.ne_of_lt (Heap.lt_size q))]; exact n
      · rw [upd_ne (ne_of_none q Hnew)]; exact q
      · rw [upd_ne (ne_of_none q Hnew)]; exact q
      · exact ⟨#[], by rw [upd_ne (ne_of_none q Hnew), q]; simp⟩
      · obtain ⟨o, es', ep, ho, r⟩ := hm
        exact ⟨o, es', ep, kp2 _ o (fun hc => (hf _ hc).2.1 rfl) ho, r⟩
      · intro c o q
        by_cases hb : c = s.heap.objs.size
        · subst hb
          rw [upd_same] at q
          cases q
          exact ⟨by show 2 ≤ sizeLine; decide, [u, v], .cons ru (.cons rv .nil), _, tup2, rfl, 0, rfl⟩
        · rw [upd_ne hb] at q
          refine (I.hok c o q).stay (fun c' v' hc r => kp2 c' v' ?_ r) (fun c' r => ?_) (fun c' zs r => ?_)
          · rcases hc with e | e
            · rw [e]; exact ne1 c o q
            · exact ne1 c' _ e
          · rw [upd_ne (ne_of_none r Hnew)]; exact r
          · rw [upd_ne (ne_of_none r Hnew)]; exact r
    refine ⟨.ref s.heap.objs.size, _, I1, rfl, ⟨s.heap.objs.size, x, y, Hnew, rfl, rfl, fun zs hz' => by rw [I.list_inj hz' hqa]; exact hx, fun zs hz' => by rw [I.list_inj hz' hqb]; exact hy⟩, ⟨z4, ?_, ⟨u, v, ?_⟩, ?_, ?_⟩, fun c hc => ?_⟩
    · exact (sb.2 TI D.TIz).trans (kp TI _ D.TIz D.TITO D.TIi1 D.TIi2 hTI)
    · exact (sb.2 TO D.TOz).trans a2
    · exact a3.at fun o q => (sb.2 i1 D.i1z).trans q
    · exact a4.at fun o q => (sb.2 i2 D.i2z).trans q
    · rw [upd_ne (Nat.ne_of_lt (fpz c hc))]; exact (hf c hc).1
  done := by
    intro X hP hw hK hc i pins s σ H E I hf st hg
    subst hP hw hK
    obtain ⟨hz, hTI, ⟨c1, d1, hTO⟩, h1, h2⟩ := st
    obtain ⟨xs, ys, hqa, hqb, hx⟩ := hg
    obtain ⟨its, rva, pa, _⟩ := I.list hqa
    obtain ⟨jts, rvb, pb, _⟩ := I.list hqb
    have la := rva.length
    have lb := rvb.length
    have hend : its.toArray[i]? = none ∨ jts.toArray[i]? = none := by
      rcases hx with e | e
      · exact .inl (Array.getElem?_eq_none (by rw [List.size_toArray]; omega))
      · exact .inr (Array.getElem?_eq_none (by rw [List.size_toArray]; omega))
    refine wpAny_pyNext_zip_end (I.ok.hd hc) D hz hTI hTO h1 h2 pa.isList pb.isList hend fun h' kp => ⟨rfl, ?_⟩
    have kp2 : ∀ c o, c ∉ [z, TO, i1, i2] → s.heap.get? c = some o → h'.get? c = some o := fun c o hc q => by
      simp only [List.mem_cons, List.not_mem_nil, or_false, not_or] at hc
      exact kp c o hc.1 hc.2.1 hc.2.2.1 hc.2.2.2 q
    have sub : ∀ c ∈ [z, TO, i1, i2], c ∈ [z, TI, TO, i1, i2] := fun c hc => by
      simp only [List.mem_cons, List.not_mem_nil, or_false] at hc ⊢
      rcases hc with e | e | e | e <;> simp [e]
    have ne1 : ∀ c o, H c = some o → c ∉ [z, TO, i1, i2] := fun c o q hc => by
      rw [(hf c (sub c hc)).1] at q
      cases q
    refine I.step (g' := s.gens) (t' := s.toks) (d' := s.drawn) (ch := [z, TO, i1, i2]) (fun c hc => ?_) (fun c o _ _ hc q _ => kp2 c o hc q) (fun c o _ _ hc q _ => ⟨o.slots, kp2 c o hc q⟩) (fun c o hc q n => n) (fun c o hc q => ⟨o, kp2 c o hc q⟩) (fun _ _ e => e) (fun _ _ _ e => e) (fun c ps e => ⟨#[], by rw [e]; simp⟩) (fun m hm => ?_) (fun c u e => ?_) I.bare
    · obtain ⟨_, f1, _, f3, f4, f5⟩ := hf c (sub c hc)
      exact ⟨f3, f1, f4, f5⟩
    · obtain ⟨o, es', ep, ho, r⟩ := hm
      exact ⟨o, es', ep, kp2 _ o (fun hc => (hf _ (sub _ hc)).2.1 rfl) ho, r⟩
    · refine (I.hok c u e).stay (fun c' v hc q => kp2 c' v ?_ q) (fun _ q => q) fun _ _ q => q
      rcases hc with y | y
      · rw [y]; exact ne1 c u e
      · exact ne1 c' _ y
  self := fun _ _ _ _ _ st h => wpAny_pyIter_zip st.1 h
def iZip (K : PySem.W.Frag) (ta : TA) : TI := fun σ H R => ta σ H fun vs H1 => ∃ a b xs ys, vs = [.ref a, .ref b] ∧ SqL K H1 a xs ∧ SqL K H1 b ys ∧ R (Itz K a b) H1
theorem pi_zip {X : Cx} {a b : Expr} {ta : TA} {es : List Expr} {k : Nat} {tp p pos : Pos} (hg : Gl X "zip") (hm : X.mg "zip" = none) (ha : PA X [a, b] ta)
    (hs : starEach [a, b] X.env = (false, eval a X.env) :: starEach [b] X.env := by rfl) (hpl : (backTo pos (starEach [b] X.env)).any (·.1) = false := by rfl) :
    PI X (.Tuple es k tp) (.Call (.Name "zip" p) [a, b] [] pos) (iZip X.K ta) := by
  intro pins s σ H R I h
  refine Call_ (ld_blt I hg hm boot_zip (PyProof.Rows.callWith_type1 (thn (ha pos pins s σ H _ I h) fun us s1 ⟨vs, H1, I1, r1, q1⟩ => ?_) hs hpl))
  obtain ⟨l1, l2, xs, ys, e, hqa, hqb, q⟩ := q1
  subst e
  obtain ⟨u, v, rfl, ru, rv⟩ := r1.two
  obtain rfl : u = Value.ref l1 := ru
  obtain rfl : v = Value.ref l2 := rv
  obtain ⟨its, rva, pa, _⟩ := I1.list hqa
  obtain ⟨jts, rvb, pb, _⟩ := I1.list hqb
  have lt1 : l1 < s1.heap.objs.size := by obtain ⟨o, e, _⟩ := pa.isList; exact Heap.lt_size e
  have lt2 : l2 < s1.heap.objs.size := by obtain ⟨o, e, _⟩ := pb.isList; exact Heap.lt_size e
  refine call_zip_2 pa.isList pb.isList fun h' hz hTI hTO h1 h2 hsz kp => ?_
  have I2 : Inv X pins σ H1 { s1 with heap := h' } := I1.kept (t' := s1.toks) kp
  refine wpAny_pyIter_zip hz ?_
  refine ⟨s1.heap.objs.size + 4, [s1.heap.objs.size + 4, s1.heap.objs.size + 2, s1.heap.objs.size + 3, s1.heap.objs.size, s1.heap.objs.size + 1], _, _, H1, rfl, I2, turn_zip l1 l2 _ _ _ _ _ (zipApart_new lt1 lt2), ⟨hz, hTI, ⟨_, _, hTO⟩, h1, h2⟩, fun c hc => ?_, q⟩
  have hle : s1.heap.objs.size ≤ c := by
    simp only [List.mem_cons, List.not_mem_nil, or_false] at hc
    rcases hc with e | e | e | e | e <;> rw [e]
    · exact Nat.le_add_right _ _
    · exact Nat.le_add_right _ _
    · exact Nat.le_add_right _ _
    · exact Nat.le_refl _
    · exact Nat.le_add_right _ _
  exact I1.fpOk hle (I1.hok.fresh hle)
/-- for x, y in zip(two lists that the body leaves as they are) -/
theorem for_zip {K : PySem.W.Frag} {a b : Addr} {xs ys : List V} {g : TG} {tb : TS} {D : Ends} {σ : St} {H : Hp} (n : Nat) (hn : n = min xs.length ys.length) (Pv : Nat → St → Hp → Prop) (h0 : Pv 0 σ H) (hl : ∀ i σ H, i ≤ n → Pv i σ H → SqL K H a xs ∧ SqL K H b ys)
    (hs : ∀ i x y t σ H, xs[i]? = some x → ys[i]? = some y → H t = none → Pv i σ H → g (.ref t) σ (upd H t (.tup [x, y])) fun σ2 H2 => tb { D with nx := Pv (i + 1), ct := Pv (i + 1), bk := D.nx } σ2 H2) (hd : ∀ σ H, Pv n σ H → D.nx σ H) :
    ∃ W : Nat → Nat → St → Hp → Prop, (∃ m, W 0 m σ H) ∧ ∀ i m σ H, W i m σ H →
      ((Itz K a b).stop i H ∧ D.nx σ H) ∨ ((Itz K a b).go i H ∧ ∃ N : St → Hp → Prop, (∀ σ' H', N σ' H' → ∃ m', m' < m ∧ W (i + 1) m' σ' H') ∧ ∀ x H', (Itz K a b).yld i H x H' → g x σ H' fun σ2 H2 => tb { D with nx := N, ct := N, bk := D.nx } σ2 H2) := by
  refine ⟨fun i m σ H => m = n - i ∧ i ≤ n ∧ Pv i σ H, ⟨n, rfl, Nat.zero_le _, h0⟩, ?_⟩
  rintro i m σ H ⟨rfl, hi, p⟩
  obtain ⟨q1, q2⟩ := hl i σ H hi p
  by_cases hlt : i < n
  · have hx : xs[i]? = some (xs[i]'(by omega)) := List.getElem?_eq_getElem _
    have hy : ys[i]? = some (ys[i]'(by omega)) := List.getElem?_eq_getElem _
    refine .inr ⟨⟨xs, ys, _, _, q1, q2, hx, hy⟩, Pv (i + 1), fun σ' H' p' => ⟨n - (i + 1), by omega, rfl, hlt, p'⟩, fun v H' y => ?_⟩
    obtain ⟨t, x, y, ht, e1, e2, y1, y2⟩ := y
    subst e1 e2
    exact hs i x y t σ _ (y1 xs q1) (y2 ys q2) ht p
  · have e : i = n := by omega
    subst e
    exact .inl ⟨⟨xs, ys, q1, q2, by omega⟩, hd σ H p⟩
end L2
set_option Elab.async false
set_option linter.all false
set_option maxRecDepth 100000
set_option maxHeartbeats 4000000
namespace Cut
open PySem
/-! ### zip of three lists of one length, its tuples kept -/
abbrev IsZ3 (h : Heap) (n : Nat) (f0 f1 : Value) : Prop := h.get? (n + 5) = some { cls := .type "zip", dict := none, data := .fields #[f0, f1, .bool false, .ref (n + 3), .ref (n + 4)], slots := #[] }
abbrev IsTri (h : Heap) (T : Addr) (a b c : Value) : Prop := h.get? T = some { cls := .type "tuple", data := .seq #[a, b, c] }
theorem na {n a b : Nat} (h : a ≠ b) : n + a ≠ n + b := fun e => h (Nat.add_left_cancel e)
theorem la {n a l : Nat} (h : l < n) : l ≠ n + a := Nat.ne_of_lt (Nat.lt_of_lt_of_le h (Nat.le_add_right n a))
theorem oa {n a c : Nat} (ha : a < 6) (h : c < n ∨ n + 6 ≤ c) : c ≠ n + a := by omega
structure Z3 (h : Heap) (n : Nat) (l1 l2 l3 : Addr) (i : Nat) (f0 f1 : Value) : Prop where
  z : IsZ3 h n f0 f1
  ti : IsTri h (n + 3) (.ref (n + 0)) (.ref (n + 1)) (.ref (n + 2))
  to : ∃ a b c, IsTri h (n + 4) a b c
  i1 : h.IsListIter (n + 0) l1 i
  i2 : h.IsListIter (n + 1) l2 i
  i3 : h.IsListIter (n + 2) l3 i
section
variable {prog : Program} {w : World} {A : Around} {E : Value → Shared → Prop} {s : Shared}
theorem updateSeq_tri {T : Addr} {a b c x : Value} {k : Nat} {Q : Unit → Shared → Prop} (hT : IsTri s.heap T a b c)
    (h : ∀ h', h'.get? T = some { cls := .type "tuple", data := .seq ((#[a, b, c] : Array Value).setIfInBounds k x) } → Heap.SameBut T s.heap h' → Q () { s with heap := h' }) :
    wpAny (model prog w) A (updateSeq T (·.setIfInBounds k x)) Q E s := by
  refine wpAny_updateSeq hT rfl (h _ ?_ (Heap.SameBut.update ..))
  rw [Heap.get?_update_self _ hT rfl]
  simp [Obj.mapSeq]
theorem z3_first {n i : Nat} {l1 l2 l3 : Addr} {xs ys zs : Array Value} {x y z f1 : Value} {Q : Value → Shared → Prop} (Z : Z3 s.heap n l1 l2 l3 i .none f1) (hl1 : s.heap.IsList l1 xs) (hl2 : s.heap.IsList l2 ys) (hl3 : s.heap.IsList l3 zs) (t1 : l1 < n) (t2 : l2 < n) (t3 : l3 < n)
    (hx : xs[i]? = some x) (hy : ys[i]? = some y) (hz : zs[i]? = some z)
    (hQ : ∀ h', Z3 h' n l1 l2 l3 (i + 1) (rawInt s.heap.objs.size) (.bool false) → IsTri h' s.heap.objs.size x y z → h'.objs.size = s.heap.objs.size + 1 → (∀ c o, (c < n ∨ n + 6 ≤ c) → s.heap.get? c = some o → h'.get? c = some o) → Q (.ref s.heap.objs.size) { s with heap := h' }) :
    wpAny (model prog w) A (Builtin.«zip.__next__» ⟨[.ref (n + 5)], []⟩) (fun fin s' => ∃ v, fin = .done (.ret v) ∧ Q v s') E s := by
  obtain ⟨hzz, hTI, ⟨a, b, c, hTO⟩, h1, h2, h3⟩ := Z
  show wpAny _ _ (field (.ref (n + 5)) 2 >>= _) _ _ _
  refine wpAny_bind (wpAny_field hzz rfl (x := .bool false) rfl ?_)
  show wpAny _ _ (field (.ref (n + 5)) 3 >>= _) _ _ _
  refine wpAny_bind (wpAny_field hzz rfl (x := .ref (n + 3)) rfl ?_)
  refine wpAny_bind (wpAny_seqItems hTI rfl ?_)
  show wpAny _ _ (Builtin.SmallTypes.ownedTupleIsFree (.ref (n + 5)) >>= _) _ _ _
  refine wpAny_bind ?_
  unfold Builtin.SmallTypes.ownedTupleIsFree
  refine wpAny_bind (wpAny_field hzz rfl (x := .none) rfl (wpAny_pure ?_))
  simp only [if_true]
  refine wpAny_bind (wpAny_rule ?_)
  refine wpAny_bind (wpAny_field hzz rfl (x := .ref (n + 4)) rfl ?_)
  refine wpAny_bind (wpAny_setField_rec hzz (by simp) fun g1 hz1 s1 => ?_)
  replace hz1 : IsZ3 g1 n .ellipsis f1 := hz1
  refine wpAny_bind ?_
  simp only [List.zipIdx_cons, List.zipIdx_nil, List.forIn_cons, List.forIn_nil]
  -- the first
  refine wpAny_bind (wpAny_bind (wpAny_onRaise ?_))
  show wpAny _ _ (Builtin.SmallTypes.nextOf (.ref (n + 0)) >>= _) _ _ _
  refine wpAny_bind (wpAny_nextOf_list_item (h1.extBut s1.extBut (na (by decide))) (hl1.extBut s1.extBut (la t1)) hx fun g2 i12 s2 => wpAny_pure ?_)
  have hTO2 : IsTri g2 (n + 4) a b c := s2.extBut _ _ (na (by decide)) (s1.extBut _ _ (na (by decide)) hTO)
  refine wpAny_bind (wpAny_seqItems hTO2 rfl ?_)
  refine wpAny_bind (updateSeq_tri hTO2 fun g3 hTO3 s3 => ?_)
  replace hTO3 : IsTri g3 (n + 4) x b c := hTO3
  refine wpAny_bind (wpAny_letGo (wpAny_pure ?_))
  -- the second
  refine wpAny_bind (wpAny_bind (wpAny_onRaise ?_))
  show wpAny _ _ (Builtin.SmallTypes.nextOf (.ref (n + 1)) >>= _) _ _ _
  refine wpAny_bind (wpAny_nextOf_list_item (((h2.extBut s1.extBut (na (by decide))).extBut s2.extBut (na (by decide))).extBut s3.extBut (na (by decide)))
    (((hl2.extBut s1.extBut (la t2)).extBut s2.extBut (la t2)).extBut s3.extBut (la t2)) hy fun g4 i24 s4 => wpAny_pure ?_)
  have hTO4 : IsTri g4 (n + 4) x b c := s4.extBut _ _ (na (by decide)) hTO3
  refine wpAny_bind (wpAny_seqItems hTO4 rfl ?_)
  refine wpAny_bind (updateSeq_tri hTO4 fun g5 hTO5 s5 => ?_)
  replace hTO5 : IsTri g5 (n + 4) x y c := hTO5
  refine wpAny_bind (wpAny_letGo (wpAny_pure ?_))
  -- the third
  have k5 : ∀ q o, q ≠ n + 5 → q ≠ n + 4 → q ≠ n + 0 → q ≠ n + 1 → s.heap.get? q = some o → g5.get? q = some o := fun q o c1 c2 c3 c4 e =>
    s5.extBut _ _ c2 (s4.extBut _ _ c4 (s3.extBut _ _ c2 (s2.extBut _ _ c3 (s1.extBut _ _ c1 e))))
  refine wpAny_bind (wpAny_bind (wpAny_onRaise ?_))
  show wpAny _ _ (Builtin.SmallTypes.nextOf (.ref (n + 2)) >>= _) _ _ _
  refine wpAny_bind (wpAny_nextOf_list_item (h3.at fun o e => k5 _ o (na (by decide)) (na (by decide)) (na (by decide)) (na (by decide)) e) (hl3.at fun o e => k5 _ o (la t3) (la t3) (la t3) (la t3) e) hz fun g6 i36 s6 => wpAny_pure ?_)
  have hTO6 : IsTri g6 (n + 4) x y c := s6.extBut _ _ (na (by decide)) hTO5
  refine wpAny_bind (wpAny_seqItems hTO6 rfl ?_)
  refine wpAny_bind (updateSeq_tri hTO6 fun g7 hTO7 s7 => ?_)
  replace hTO7 : IsTri g7 (n + 4) x y z := hTO7
  refine wpAny_bind (wpAny_letGo (wpAny_pure (wpAny_pure ?_)))
  -- the tuple
  refine wpAny_bind (wpAny_seqItems hTO7 rfl ?_)
  refine wpAny_bind (wpAny_newTuple ?_)
  have hsz : g7.objs.size = s.heap.objs.size := by rw [s7.1, s6.1, s5.1, s4.1, s3.1, s2.1, s1.1]
  have up57 : ∀ q o, q ≠ n + 4 → q ≠ n + 2 → g5.get? q = some o → g7.get? q = some o := fun q o c1 c2 e => s7.extBut _ _ c1 (s6.extBut _ _ c2 e)
  have hz7 : IsZ3 g7 n .ellipsis f1 := up57 _ _ (na (by decide)) (na (by decide)) (s5.extBut _ _ (na (by decide)) (s4.extBut _ _ (na (by decide)) (s3.extBut _ _ (na (by decide)) (s2.extBut _ _ (na (by decide)) hz1))))
  have k7 : ∀ q o, q ≠ n + 5 → q ≠ n + 4 → q ≠ n + 0 → q ≠ n + 1 → q ≠ n + 2 → s.heap.get? q = some o → g7.get? q = some o := fun q o c1 c2 c3 c4 c5 e => up57 q o c2 c5 (k5 q o c1 c2 c3 c4 e)
  have i17 : g7.IsListIter (n + 0) l1 (i + 1) := i12.at fun o e => up57 _ o (na (by decide)) (na (by decide)) (s5.extBut _ _ (na (by decide)) (s4.extBut _ _ (na (by decide)) (s3.extBut _ _ (na (by decide)) e)))
  have i27 : g7.IsListIter (n + 1) l2 (i + 1) := i24.at fun o e => up57 _ o (na (by decide)) (na (by decide)) (s5.extBut _ _ (na (by decide)) e)
  have i37 : g7.IsListIter (n + 2) l3 (i + 1) := i36.at fun o e => s7.extBut _ _ (na (by decide)) e
  have hlt : n + 5 < g7.objs.size := Heap.lt_size hz7
  show wpAny _ _ (Builtin.SmallTypes.ownedTupleHandOut (.ref (n + 5)) (.ref g7.objs.size) >>= _) _ _ _
  refine wpAny_bind ?_
  unfold Builtin.SmallTypes.ownedTupleHandOut
  have hz8 : IsZ3 (g7.push { cls := .type "tuple", data := .seq #[x, y, z] }) n .ellipsis f1 := Heap.get?_push_of_some _ hz7
  refine wpAny_bind (wpAny_setField_rec hz8 (by simp) fun g9 hz9 s9 => ?_)
  replace hz9 : IsZ3 g9 n (rawInt g7.objs.size) f1 := hz9
  refine wpAny_setField_rec hz9 (by simp) fun g10 hz10 s10 => ?_
  replace hz10 : IsZ3 g10 n (rawInt g7.objs.size) (.bool false) := hz10
  have up : ∀ q o, q ≠ n + 5 → g7.get? q = some o → g10.get? q = some o := fun q o c1 e => s10.extBut _ _ c1 (s9.extBut _ _ c1 (Heap.get?_push_of_some _ e))
  have hT : IsTri g10 g7.objs.size x y z := s10.extBut _ _ (Nat.ne_of_gt hlt) (s9.extBut _ _ (Nat.ne_of_gt hlt) (Heap.get?_push_size _ rfl))
  have hs10 : g10.objs.size = g7.objs.size + 1 := by rw [s10.1, s9.1, Heap.size_push]
  rw [hsz] at hz10 hT hs10
  refine wpAny_pure ⟨_, rfl, ?_⟩
  show Q (.ref g7.objs.size) _
  rw [hsz]
  refine hQ g10 ⟨hz10, up _ _ (na (by decide)) (k7 _ _ (na (by decide)) (na (by decide)) (na (by decide)) (na (by decide)) (na (by decide)) hTI), ⟨x, y, z, up _ _ (na (by decide)) hTO7⟩, i17.at fun o e => up _ o (na (by decide)) e, i27.at fun o e => up _ o (na (by decide)) e, i37.at fun o e => up _ o (na (by decide)) e⟩ hT hs10 fun q o hq e => up q o (oa (by decide) hq) (k7 q o (oa (by decide) hq) (oa (by decide) hq) (oa (by decide) hq) (oa (by decide) hq) (oa (by decide) hq) e)
theorem loadIfAlive_any {M : Model} {a : Addr} {Q : Option Obj → Shared → Prop} (h : Q (s.heap.get? a) s) : wpAny M A (loadIfAlive a) Q E s := fun Γ p _ => by
  unfold loadIfAlive
  rw [Sem.wp_loadIfAlive]
  simpa using h
theorem z3_free {n : Nat} {T : Addr} {oT : Obj} {f1 : Value} {Q : Bool → Shared → Prop} (hz : IsZ3 s.heap n (rawInt T) f1) (hT : s.heap.get? T = some oT) (hf : f1 = .bool false ∨ f1 = .bool true)
    (hQ : ∀ h', IsZ3 h' n (rawInt T) (.bool true) → Heap.SameBut (n + 5) s.heap h' → Q false { s with heap := h' }) : wpAny (model prog w) A (Builtin.SmallTypes.ownedTupleIsFree (.ref (n + 5))) Q E s := by
  unfold Builtin.SmallTypes.ownedTupleIsFree
  refine wpAny_bind (wpAny_field hz rfl (x := rawInt T) rfl ?_)
  show wpAny _ _ (loadIfAlive (T : Int).toNat >>= _) _ _ _
  refine wpAny_bind (loadIfAlive_any ?_)
  rw [Int.toNat_natCast, hT]
  show wpAny _ _ (field (.ref (n + 5)) 1 >>= _) _ _ _
  refine wpAny_bind (wpAny_field hz rfl (x := f1) rfl ?_)
  rcases hf with rfl | rfl
  · show wpAny _ _ (setField (.ref (n + 5)) 1 (.bool true) >>= _) _ _ _
    refine wpAny_bind (wpAny_setField_rec hz (by simp) fun h' hz' s' => wpAny_pure (hQ h' hz' s'))
  · exact wpAny_pure (hQ _ hz ⟨rfl, fun _ _ => rfl⟩)
theorem z3_more {n i : Nat} {T : Addr} {oT : Obj} {l1 l2 l3 : Addr} {xs ys zs : Array Value} {x y z f1 : Value} {Q : Value → Shared → Prop} (Z : Z3 s.heap n l1 l2 l3 i (rawInt T) f1) (hT : s.heap.get? T = some oT) (hf : f1 = .bool false ∨ f1 = .bool true) (hTn : n + 6 ≤ T)
    (hl1 : s.heap.IsList l1 xs) (hl2 : s.heap.IsList l2 ys) (hl3 : s.heap.IsList l3 zs) (t1 : l1 < n) (t2 : l2 < n) (t3 : l3 < n)
    (hx : xs[i]? = some x) (hy : ys[i]? = some y) (hz : zs[i]? = some z)
    (hQ : ∀ h', Z3 h' n l1 l2 l3 (i + 1) (rawInt T) (.bool true) → IsTri h' s.heap.objs.size x y z → h'.objs.size = s.heap.objs.size + 1 → (∀ c o, (c < n ∨ n + 6 ≤ c) → s.heap.get? c = some o → h'.get? c = some o) → Q (.ref s.heap.objs.size) { s with heap := h' }) :
    wpAny (model prog w) A (Builtin.«zip.__next__» ⟨[.ref (n + 5)], []⟩) (fun fin s' => ∃ v, fin = .done (.ret v) ∧ Q v s') E s := by
  obtain ⟨hzz, hTI, ⟨a, b, c, hTO⟩, h1, h2, h3⟩ := Z
  show wpAny _ _ (field (.ref (n + 5)) 2 >>= _) _ _ _
  refine wpAny_bind (wpAny_field hzz rfl (x := .bool false) rfl ?_)
  show wpAny _ _ (field (.ref (n + 5)) 3 >>= _) _ _ _
  refine wpAny_bind (wpAny_field hzz rfl (x := .ref (n + 3)) rfl ?_)
  refine wpAny_bind (wpAny_seqItems hTI rfl ?_)
  show wpAny _ _ (Builtin.SmallTypes.ownedTupleIsFree (.ref (n + 5)) >>= _) _ _ _
  refine wpAny_bind (z3_free hzz hT hf fun g1 hz1 s1 => ?_)
  simp only [Bool.false_eq_true, if_false]
  refine wpAny_bind ?_
  simp only [List.forIn_toArray, List.forIn_cons, List.forIn_nil]
  -- the first
  refine wpAny_bind (wpAny_bind (wpAny_holding ?_))
  show wpAny _ _ (Builtin.SmallTypes.nextOf (.ref (n + 0)) >>= _) _ _ _
  refine wpAny_bind (wpAny_nextOf_list_item (h1.extBut s1.extBut (na (by decide))) (hl1.extBut s1.extBut (la t1)) hx fun g2 i12 s2 => wpAny_pure ?_)
  refine wpAny_pure ?_
  -- the second
  refine wpAny_bind (wpAny_bind (wpAny_holding ?_))
  show wpAny _ _ (Builtin.SmallTypes.nextOf (.ref (n + 1)) >>= _) _ _ _
  refine wpAny_bind (wpAny_nextOf_list_item ((h2.extBut s1.extBut (na (by decide))).extBut s2.extBut (na (by decide))) ((hl2.extBut s1.extBut (la t2)).extBut s2.extBut (la t2)) hy fun g3 i23 s3 => wpAny_pure ?_)
  refine wpAny_pure ?_
  -- the third
  refine wpAny_bind (wpAny_bind (wpAny_holding ?_))
  show wpAny _ _ (Builtin.SmallTypes.nextOf (.ref (n + 2)) >>= _) _ _ _
  refine wpAny_bind (wpAny_nextOf_list_item (((h3.extBut s1.extBut (na (by decide))).extBut s2.extBut (na (by decide))).extBut s3.extBut (na (by decide))) (((hl3.extBut s1.extBut (la t3)).extBut s2.extBut (la t3)).extBut s3.extBut (la t3)) hz fun g4 i34 s4 => wpAny_pure ?_)
  refine wpAny_pure (wpAny_pure ?_)
  show wpAny _ _ (newTuple [x, y, z] >>= _) _ _ _
  refine wpAny_bind (wpAny_newTuple ?_)
  have hsz : g4.objs.size = s.heap.objs.size := by rw [s4.1, s3.1, s2.1, s1.1]
  have up : ∀ q o, q ≠ n + 5 → q ≠ n + 0 → q ≠ n + 1 → q ≠ n + 2 → s.heap.get? q = some o → (g4.push { cls := .type "tuple", data := .seq #[x, y, z] }).get? q = some o := fun q o c1 c2 c3 c4 e =>
    Heap.get?_push_of_some _ (s4.extBut _ _ c4 (s3.extBut _ _ c3 (s2.extBut _ _ c2 (s1.extBut _ _ c1 e))))
  refine wpAny_pure ⟨_, rfl, ?_⟩
  show Q (.ref g4.objs.size) _
  rw [hsz]
  refine hQ _ ⟨Heap.get?_push_of_some _ (s4.extBut _ _ (na (by decide)) (s3.extBut _ _ (na (by decide)) (s2.extBut _ _ (na (by decide)) hz1))), up _ _ (na (by decide)) (na (by decide)) (na (by decide)) (na (by decide)) hTI, ⟨a, b, c, up _ _ (na (by decide)) (na (by decide)) (na (by decide)) (na (by decide)) hTO⟩,
    i12.at fun o e => Heap.get?_push_of_some _ (s4.extBut _ _ (na (by decide)) (s3.extBut _ _ (na (by decide)) e)), i23.at fun o e => Heap.get?_push_of_some _ (s4.extBut _ _ (na (by decide)) e), i34.at fun o e => Heap.get?_push_of_some _ e⟩ ?_ ?_ fun q o hq e => up q o (oa (by decide) hq) (oa (by decide) hq) (oa (by decide) hq) (oa (by decide) hq) e
  · rw [← hsz]; exact Heap.get?_push_size _ rfl
  · rw [Heap.size_push, hsz]
theorem z3_end {n i : Nat} {T : Addr} {oT : Obj} {l1 l2 l3 : Addr} {xs : Array Value} {f1 : Value} {Q : Fin → Shared → Prop} (hh : A.handled = none) (Z : Z3 s.heap n l1 l2 l3 i (rawInt T) f1) (hT : s.heap.get? T = some oT) (hf : f1 = .bool false ∨ f1 = .bool true)
    (hl1 : s.heap.IsList l1 xs) (t1 : l1 < n) (hx : xs[i]? = none)
    (hE : ∀ h' e, (∀ c o, (c < n ∨ n + 6 ≤ c) → s.heap.get? c = some o → h'.get? c = some o) → (∃ o, h'.get? e = some o ∧ o.cls = .type "StopIteration") → E (.ref e) { s with heap := h' }) :
    wpAny (model prog w) A (Builtin.«zip.__next__» ⟨[.ref (n + 5)], []⟩) Q E s := by
  obtain ⟨hzz, hTI, ⟨a, b, c, hTO⟩, h1, h2, h3⟩ := Z
  show wpAny _ _ (field (.ref (n + 5)) 2 >>= _) _ _ _
  refine wpAny_bind (wpAny_field hzz rfl (x := .bool false) rfl ?_)
  show wpAny _ _ (field (.ref (n + 5)) 3 >>= _) _ _ _
  refine wpAny_bind (wpAny_field hzz rfl (x := .ref (n + 3)) rfl ?_)
  refine wpAny_bind (wpAny_seqItems hTI rfl ?_)
  show wpAny _ _ (Builtin.SmallTypes.ownedTupleIsFree (.ref (n + 5)) >>= _) _ _ _
  refine wpAny_bind (z3_free hzz hT hf fun g1 hz1 s1 => ?_)
  simp only [Bool.false_eq_true, if_false]
  refine wpAny_bind ?_
  simp only [List.forIn_toArray, List.forIn_cons, List.forIn_nil]
  refine wpAny_bind (wpAny_bind (wpAny_holding ?_))
  show wpAny _ _ (Builtin.SmallTypes.nextOf (.ref (n + 0)) >>= _) _ _ _
  refine wpAny_bind (wpAny_nextOf_list_end hh (h1.extBut s1.extBut (na (by decide))) (hl1.extBut s1.extBut (la t1)) hx fun g2 e s2 he => ?_)
  exact hE g2 e (fun q o hq e => s2 _ _ (oa (by decide) hq) (s1.extBut _ _ (oa (by decide) hq) e)) he
theorem next_z3_first {n i : Nat} {l1 l2 l3 : Addr} {xs ys zs : Array Value} {x y z f1 : Value} {Q : Option Value → Shared → Prop} (Z : Z3 s.heap n l1 l2 l3 i .none f1) (hl1 : s.heap.IsList l1 xs) (hl2 : s.heap.IsList l2 ys) (hl3 : s.heap.IsList l3 zs) (t1 : l1 < n) (t2 : l2 < n) (t3 : l3 < n)
    (hx : xs[i]? = some x) (hy : ys[i]? = some y) (hz : zs[i]? = some z)
    (hQ : ∀ h', Z3 h' n l1 l2 l3 (i + 1) (rawInt s.heap.objs.size) (.bool false) → IsTri h' s.heap.objs.size x y z → h'.objs.size = s.heap.objs.size + 1 → (∀ c o, (c < n ∨ n + 6 ≤ c) → s.heap.get? c = some o → h'.get? c = some o) → Q (some (.ref s.heap.objs.size)) { s with heap := h' }) :
    wpAny (model prog w) A (pyNext (.ref (n + 5))) Q E s := by
  have hT : s.TypeIs (.ref (n + 5)) "zip" := ⟨_, Z.z, rfl⟩
  unfold pyNext
  exact wpAny_bind (wpAny_attempt (wpAny_callSpecial?_slot (name := Str.ofString "__next__") hT F.slot_zip_next
    (wpAny_call_entry F.slot_zip_next hT F.entry_zip_next (z3_first Z hl1 hl2 hl3 t1 t2 t3 hx hy hz fun h' a1 a2 a3 a4 => wpAny_pure (hQ h' a1 a2 a3 a4)) (F.args_zip_next_1 _))))
theorem next_z3_more {n i : Nat} {T : Addr} {oT : Obj} {l1 l2 l3 : Addr} {xs ys zs : Array Value} {x y z f1 : Value} {Q : Option Value → Shared → Prop} (Z : Z3 s.heap n l1 l2 l3 i (rawInt T) f1) (hT : s.heap.get? T = some oT) (hf : f1 = .bool false ∨ f1 = .bool true) (hTn : n + 6 ≤ T)
    (hl1 : s.heap.IsList l1 xs) (hl2 : s.heap.IsList l2 ys) (hl3 : s.heap.IsList l3 zs) (t1 : l1 < n) (t2 : l2 < n) (t3 : l3 < n)
    (hx : xs[i]? = some x) (hy : ys[i]? = some y) (hz : zs[i]? = some z)
    (hQ : ∀ h', Z3 h' n l1 l2 l3 (i + 1) (rawInt T) (.bool true) → IsTri h' s.heap.objs.size x y z → h'.objs.size = s.heap.objs.size + 1 → (∀ c o, (c < n ∨ n + 6 ≤ c) → s.heap.get? c = some o → h'.get? c = some o) → Q (some (.ref s.heap.objs.size)) { s with heap := h' }) :
    wpAny (model prog w) A (pyNext (.ref (n + 5))) Q E s := by
  have hTy : s.TypeIs (.ref (n + 5)) "zip" := ⟨_, Z.z, rfl⟩
  unfold pyNext
  exact wpAny_bind (wpAny_attempt (wpAny_callSpecial?_slot (name := Str.ofString "__next__") hTy F.slot_zip_next
    (wpAny_call_entry F.slot_zip_next hTy F.entry_zip_next (z3_more Z hT hf hTn hl1 hl2 hl3 t1 t2 t3 hx hy hz fun h' a1 a2 a3 a4 => wpAny_pure (hQ h' a1 a2 a3 a4)) (F.args_zip_next_1 _))))
theorem next_z3_end {n i : Nat} {T : Addr} {oT : Obj} {l1 l2 l3 : Addr} {xs : Array Value} {f1 : Value} {Q : Option Value → Shared → Prop} (hh : A.handled = none) (Z : Z3 s.heap n l1 l2 l3 i (rawInt T) f1) (hT : s.heap.get? T = some oT) (hf : f1 = .bool false ∨ f1 = .bool true)
    (hl1 : s.heap.IsList l1 xs) (t1 : l1 < n) (hx : xs[i]? = none)
    (hQ : ∀ h', (∀ c o, (c < n ∨ n + 6 ≤ c) → s.heap.get? c = some o → h'.get? c = some o) → Q none { s with heap := h' }) : wpAny (model prog w) A (pyNext (.ref (n + 5))) Q E s := by
  have hTy : s.TypeIs (.ref (n + 5)) "zip" := ⟨_, Z.z, rfl⟩
  unfold pyNext
  refine wpAny_bind (wpAny_attempt (wpAny_callSpecial?_slot (name := Str.ofString "__next__") hTy F.slot_zip_next
    (wpAny_call_entry F.slot_zip_next hTy F.entry_zip_next (z3_end hh Z hT hf hl1 t1 hx fun h' e hk he => ?_) (F.args_zip_next_1 _))))
  obtain ⟨o, ho, hc⟩ := he
  refine wpAny_bind (wpAny_isInstance (T := "StopIteration") (b := true) ⟨o, ho, hc⟩ isSubtype_stop ?_)
  exact wpAny_pure (hQ _ hk)
theorem iter_z3 {n : Nat} {f0 f1 : Value} {Q : Value → Shared → Prop} (hz : IsZ3 s.heap n f0 f1) (h : Q (.ref (n + 5)) s) : wpAny (model prog w) A (pyIter (.ref (n + 5))) Q E s := by
  have hT : s.TypeIs (.ref (n + 5)) "zip" := ⟨_, hz, rfl⟩
  refine wpAny_pyIter_slot hT F.slot_zip_iter (wpAny_call_entry F.slot_zip_iter hT F.entry_zip_iter ?_ (F.args_zip_iter_1 _))
  show wpAny _ _ (ret (.ref (n + 5))) _ _ s
  exact wpAny_pure ⟨_, rfl, "zip", _, hT, F.slot_zip_next.lookup, h⟩
end
end Cut
set_option Elab.async false
set_option linter.all false
set_option maxRecDepth 100000
set_option maxHeartbeats 4000000
namespace Cut
open PySem
/-! ### list(zip(three lists of one length)) -/
theorem typeCall_zip_3 (a b c : Value) : checkTypeCall "zip" ⟨[a, b, c], []⟩ = pure () := by kernel_rfl
theorem newCall_zip_3 (a b c : Value) : checkBuiltinCall "zip.__new__" ⟨[.type "zip", a, b, c], []⟩ = pure () := by kernel_rfl
theorem args_object_init_4 (a b c d : Value) : argsOk "object.__init__" ⟨[a, b, c, d], []⟩ := by
  unfold argsOk; rw [signature?_of (id := "object.__init__") (n := ['_', '_', 't', 'i', 'n', 'i', '_', '_']) (o := ['t', 'c', 'e', 'j', 'b', 'o']) (by kernel_rfl) F.owner_object]; kernel_rfl
theorem zip_no_len : typeLookup (.type "zip") "__len__" = pure none := by rw [typeLookup_type, builtinLookup_eq_fast]; kernel_rfl
theorem zip_no_hint : typeLookup (.type "zip") "__length_hint__" = pure none := by rw [typeLookup_type, builtinLookup_eq_fast]; kernel_rfl
abbrev zA1 (h : Heap) (l1 : Addr) : Heap := h.push { cls := .type "list_iterator", data := .fields #[.ref l1, .int 0 0] }
abbrev zA2 (h : Heap) (l1 l2 : Addr) : Heap := (zA1 h l1).push { cls := .type "list_iterator", data := .fields #[.ref l2, .int 0 0] }
abbrev zA3 (h : Heap) (l1 l2 l3 : Addr) : Heap := (zA2 h l1 l2).push { cls := .type "list_iterator", data := .fields #[.ref l3, .int 0 0] }
abbrev zA4 (h : Heap) (l1 l2 l3 : Addr) : Heap := (zA3 h l1 l2 l3).push { cls := .type "tuple", data := .seq #[.ref h.objs.size, .ref (zA1 h l1).objs.size, .ref (zA2 h l1 l2).objs.size] }
abbrev zA5 (h : Heap) (l1 l2 l3 : Addr) : Heap := (zA4 h l1 l2 l3).push { cls := .type "tuple", data := .seq #[.none, .none, .none] }
abbrev zA6 (h : Heap) (l1 l2 l3 : Addr) : Heap := (zA5 h l1 l2 l3).push { cls := .type "zip", data := .fields #[.none, .bool false, .bool false, .ref (zA3 h l1 l2 l3).objs.size, .ref (zA4 h l1 l2 l3).objs.size] }
theorem meets_zip3_new (l1 l2 l3 : Addr) (xs ys zs : Array Value) :
    Meets (Builtin.«zip.__new__» ⟨[.type "zip", .ref l1, .ref l2, .ref l3], []⟩) (fun _ R s => s.heap.IsList l1 xs ∧ s.heap.IsList l2 ys ∧ s.heap.IsList l3 zs ∧
      R (.ok (.ret (.ref (zA5 s.heap l1 l2 l3).objs.size))) { s with heap := zA6 s.heap l1 l2 l3 }) :=
  .of_wp fun prog w A R s h => by
    obtain ⟨hp, g, d, tk, os⟩ := s; obtain ⟨hl1, hl2, hl3, h⟩ := h
    have hsub := sub_zip
    have hL1 : Heap.IsList (Shared.heap ⟨hp, g, d, tk, os⟩) l1 xs := hl1
    have hL2 : Heap.IsList (Shared.heap ⟨hp.push { cls := .type "list_iterator", data := .fields #[.ref l1, .int 0 0] }, g, d, tk, os⟩) l2 ys := Heap.IsList.push hl2 _
    have hL3 : Heap.IsList (Shared.heap ⟨(hp.push { cls := .type "list_iterator", data := .fields #[.ref l1, .int 0 0] }).push { cls := .type "list_iterator", data := .fields #[.ref l2, .int 0 0] }, g, d, tk, os⟩) l3 zs := Heap.IsList.push (Heap.IsList.push hl3 _) _
    wp_walk using wpAny_pyIter_list hL1, wpAny_pyIter_list hL2, wpAny_pyIter_list hL3
    exact ⟨_, rfl, h⟩
section
variable {prog : Program} {w : World} {A : Around} {E : Value → Shared → Prop} {s : Shared}
theorem call_zip_3 {l1 l2 l3 : Addr} {xs ys zs : Array Value} {Q : Value → Shared → Prop} (hl1 : s.heap.IsList l1 xs) (hl2 : s.heap.IsList l2 ys) (hl3 : s.heap.IsList l3 zs)
    (h : ∀ h', Z3 h' s.heap.objs.size l1 l2 l3 0 .none (.bool false) → h'.objs.size = s.heap.objs.size + 6 → (∀ c o, s.heap.get? c = some o → h'.get? c = some o) → Q (.ref (s.heap.objs.size + 5)) { s with heap := h' }) :
    wpAny (model prog w) A (call (.type "zip") [.ref l1, .ref l2, .ref l3]) Q E s := by
  refine callType_new F.called_zip (by decide) (typeCall_zip_3 _ _ _) (newCall_zip_3 _ _ _) (fun obj => args_object_init_4 obj _ _ _) F.entry_zip_new
    (meets_zip3_new l1 l2 l3 xs ys zs) ⟨hl1, hl2, hl3, ?_⟩
  have z1 : (zA1 s.heap l1).objs.size = s.heap.objs.size + 1 := Heap.size_push ..
  have z2 : (zA2 s.heap l1 l2).objs.size = s.heap.objs.size + 2 := by rw [Heap.size_push, z1]
  have z3 : (zA3 s.heap l1 l2 l3).objs.size = s.heap.objs.size + 3 := by rw [Heap.size_push, z2]
  have z4 : (zA4 s.heap l1 l2 l3).objs.size = s.heap.objs.size + 4 := by rw [Heap.size_push, z3]
  have z5 : (zA5 s.heap l1 l2 l3).objs.size = s.heap.objs.size + 5 := by rw [Heap.size_push, z4]
  have z6 : (zA6 s.heap l1 l2 l3).objs.size = s.heap.objs.size + 6 := by rw [Heap.size_push, z5]
  have g6 : (zA6 s.heap l1 l2 l3).get? (zA5 s.heap l1 l2 l3).objs.size = some _ := Heap.get?_push_size _ rfl
  have g5 : (zA6 s.heap l1 l2 l3).get? (zA4 s.heap l1 l2 l3).objs.size = some _ := Heap.get?_push_of_some _ (Heap.get?_push_size _ rfl)
  have g4 : (zA6 s.heap l1 l2 l3).get? (zA3 s.heap l1 l2 l3).objs.size = some _ := Heap.get?_push_of_some _ (Heap.get?_push_of_some _ (Heap.get?_push_size _ rfl))
  have g3 : (zA6 s.heap l1 l2 l3).get? (zA2 s.heap l1 l2).objs.size = some _ := Heap.get?_push_of_some _ (Heap.get?_push_of_some _ (Heap.get?_push_of_some _ (Heap.get?_push_size _ rfl)))
  have g2 : (zA6 s.heap l1 l2 l3).get? (zA1 s.heap l1).objs.size = some _ := Heap.get?_push_of_some _ (Heap.get?_push_of_some _ (Heap.get?_push_of_some _ (Heap.get?_push_of_some _ (Heap.get?_push_size _ rfl))))
  have g1 : (zA6 s.heap l1 l2 l3).get? s.heap.objs.size = some _ := Heap.get?_push_of_some _ (Heap.get?_push_of_some _ (Heap.get?_push_of_some _ (Heap.get?_push_of_some _ (Heap.get?_push_of_some _ (Heap.get?_push_size _ rfl)))))
  show _ ∧ _
  rw [z3, z4, z5] at g6
  rw [z1, z2, z3] at g4
  rw [z4] at g5
  rw [z2] at g3
  rw [z1] at g2
  rw [z5]
  exact ⟨⟨_, g6, rfl⟩, h _ ⟨g6, g4, ⟨_, _, _, g5⟩, ⟨_, g1, rfl, rfl⟩, ⟨_, g2, rfl, rfl⟩, ⟨_, g3, rfl, rfl⟩⟩ z6 fun c o x =>
    Heap.get?_push_of_some _ (Heap.get?_push_of_some _ (Heap.get?_push_of_some _ (Heap.get?_push_of_some _ (Heap.get?_push_of_some _ (Heap.get?_push_of_some _ x)))))⟩
end
theorem Z3.keep {h h' : Heap} {n : Nat} {l1 l2 l3 : Addr} {i : Nat} {f0 f1 : Value} (Z : Z3 h n l1 l2 l3 i f0 f1) (k : ∀ q o, n ≤ q → q < n + 6 → h.get? q = some o → h'.get? q = some o) : Z3 h' n l1 l2 l3 i f0 f1 :=
  have in6 : ∀ j, j < 6 → n ≤ n + j ∧ n + j < n + 6 := fun j hj => ⟨Nat.le_add_right _ _, Nat.add_lt_add_left hj n⟩
  ⟨k _ _ (in6 5 (by decide)).1 (in6 5 (by decide)).2 Z.z, k _ _ (in6 3 (by decide)).1 (in6 3 (by decide)).2 Z.ti, let ⟨a, b, c, e⟩ := Z.to; ⟨a, b, c, k _ _ (in6 4 (by decide)).1 (in6 4 (by decide)).2 e⟩,
    Z.i1.at fun o e => k _ o (in6 0 (by decide)).1 (in6 0 (by decide)).2 e, Z.i2.at fun o e => k _ o (in6 1 (by decide)).1 (in6 1 (by decide)).2 e, Z.i3.at fun o e => k _ o (in6 2 (by decide)).1 (in6 2 (by decide)).2 e⟩
def Items3 (h : Heap) (n S : Nat) (xs ys zs acc : Array Value) : Prop := ∀ (j : Nat) (v : Value), acc[j]? = some v → ∃ (t : Addr) (x y z : Value), v = Value.ref t ∧ n + 6 ≤ t ∧ t ≠ S ∧ IsTri h t x y z ∧ xs[j]? = some x ∧ ys[j]? = some y ∧ zs[j]? = some z
theorem Items3.keep {h h' : Heap} {n S : Nat} {xs ys zs acc : Array Value} (x : Items3 h n S xs ys zs acc) (k : ∀ q o, n + 6 ≤ q → q ≠ S → h.get? q = some o → h'.get? q = some o) : Items3 h' n S xs ys zs acc := fun j v e =>
  let ⟨t, a, b, c, h1, h2, h3, h4, h5⟩ := x j v e
  ⟨t, a, b, c, h1, h2, h3, k _ _ h2 h3 h4, h5⟩
theorem Items3.push {h : Heap} {n S : Nat} {xs ys zs acc : Array Value} {t : Addr} {a b c : Value} (x : Items3 h n S xs ys zs acc) (h2 : n + 6 ≤ t) (h3 : t ≠ S) (h4 : IsTri h t a b c) (ha : xs[acc.size]? = some a) (hb : ys[acc.size]? = some b) (hc : zs[acc.size]? = some c) :
    Items3 h n S xs ys zs (acc.push (.ref t)) := fun j v e => by
  rw [Array.getElem?_push] at e
  split at e
  · rename_i e2
    cases e
    rw [e2]
    exact ⟨t, a, b, c, rfl, h2, h3, h4, ha, hb, hc⟩
  · exact x j v e
theorem ne6 {n q S : Nat} (h : q < n + 6) (hS : n + 6 ≤ S) : q ≠ S := by omega
theorem low6 {n q : Nat} (h : q < n + 6) : ¬ n + 6 ≤ q := by omega
section
variable {prog : Program} {w : World} {A : Around} {R : Result → Shared → Prop} {n m : Nat} {l1 l2 l3 S : Addr} {xs ys zs : Array Value} {res : Value}
theorem z3_loop (hh : A.handled = none) (t1 : l1 < n) (t2 : l2 < n) (t3 : l3 < n) (hS6 : n + 6 ≤ S) (hxm : xs.size = m) (hym : ys.size = m) (hzm : zs.size = m) (hm : m ≤ sizeLine) :
    ∀ (k i : Nat) (s : Shared) (acc : Array Value) (c : Nat) (T : Addr) (oT : Obj) (f1 : Value), m - i = k → i ≤ m → Z3 s.heap n l1 l2 l3 i (rawInt T) f1 → s.heap.get? T = some oT → (f1 = .bool false ∨ f1 = .bool true) → n + 6 ≤ T → T ≠ S →
    s.heap.IsList l1 xs → s.heap.IsList l2 ys → s.heap.IsList l3 zs → s.heap.get? S = some { cls := .type "list", dict := none, data := .seq acc c, slots := #[] } → acc.size = i → Items3 s.heap n S xs ys zs acc →
    (∀ h' acc' c', (∀ b o, b ≠ S → (b < n ∨ n + 6 ≤ b) → s.heap.get? b = some o → h'.get? b = some o) → h'.get? S = some { cls := .type "list", dict := none, data := .seq acc' c', slots := #[] } → acc'.size = m → Items3 h' n S xs ys zs acc' → R (.ok (.ret res)) { s with heap := h' }) →
    codeAny (model prog w) A (.builtin "list.extend.loop" ⟨[.ref S, .ref (n + 5), res], []⟩) R s := by
  intro k
  induction k with
  | zero =>
    intro i s acc c T oT f1 hk hi Z hT hf hTn hTS hl1 hl2 hl3 hS hacc hit hR
    have hin : i = m := by omega
    subst hin
    refine codeAny_builtin F.entry_extend_loop ?_
    rw [Around.under_plainId F.plain_extend_loop _]
    show wpAny _ A.in1 (pyNext (.ref (n + 5)) >>= _) _ _ s
    refine wpAny_bind (next_z3_end (A := A.in1) hh Z hT hf hl1 t1 (Array.getElem?_eq_none (by omega)) fun h' kp => ?_)
    exact wpAny_pure (hR h' acc c (fun b o _ hb e => kp b o hb e) (kp S _ (.inr hS6) hS) hacc (hit.keep fun q o hq _ e => kp q o (.inr hq) e))
  | succ k ih =>
    intro i s acc c T oT f1 hk hi Z hT hf hTn hTS hl1 hl2 hl3 hS hacc hit hR
    have hlt : i < m := by omega
    refine codeAny_builtin F.entry_extend_loop ?_
    rw [Around.under_plainId F.plain_extend_loop _]
    show wpAny _ A.in1 (pyNext (.ref (n + 5)) >>= _) _ _ s
    have ex : xs[i]? = some (xs[i]'(by omega)) := Array.getElem?_eq_getElem _
    have ey : ys[i]? = some (ys[i]'(by omega)) := Array.getElem?_eq_getElem _
    have ez : zs[i]? = some (zs[i]'(by omega)) := Array.getElem?_eq_getElem _
    refine wpAny_bind (next_z3_more Z hT hf hTn hl1 hl2 hl3 t1 t2 t3 ex ey ez fun h' Z' tri hsz kp => ?_)
    have hS' := kp S _ (.inr hS6) hS
    have hTl := Heap.lt_size hT
    have hSl := Heap.lt_size hS
    have hnT : n + 6 ≤ s.heap.objs.size := Nat.le_trans hTn (Nat.le_of_lt hTl)
    show wpAny _ A.in1 (updateSeq S (·.push (.ref s.heap.objs.size)) >>= _) _ _ _
    refine wpAny_bind ?_
    have oth : ∀ b o, b ≠ S → h'.get? b = some o → (h'.update S (Obj.mapSeq (·.push (Value.ref s.heap.objs.size)))).get? b = some o := fun b o hb e => (Heap.get?_update_other _ _ (Ne.symm hb)).trans e
    refine wpAny_updateSeq hS' rfl (wpAny_pure ⟨plainId_quiet F.plain_extend_loop _, ih (i + 1) _ (acc.push (.ref s.heap.objs.size)) _ T oT (.bool true) (by omega) hlt (Z'.keep fun q o _ hq e => oth q o (ne6 hq hS6) e) (oth T _ hTS (kp T _ (.inr hTn) hT)) (.inr rfl) hTn hTS
      ((hl1.at fun o e => kp l1 o (.inl t1) e).at fun o e => oth l1 o (ne6 (Nat.lt_of_lt_of_le t1 (Nat.le_add_right _ _)) hS6) e) ((hl2.at fun o e => kp l2 o (.inl t2) e).at fun o e => oth l2 o (ne6 (Nat.lt_of_lt_of_le t2 (Nat.le_add_right _ _)) hS6) e) ((hl3.at fun o e => kp l3 o (.inl t3) e).at fun o e => oth l3 o (ne6 (Nat.lt_of_lt_of_le t3 (Nat.le_add_right _ _)) hS6) e)
      (Heap.get?_update_self _ hS' rfl) (by rw [Array.size_push, hacc]) ?_ fun h'' acc' c' hk'' hS'' hacc' hit' => ?_⟩)
      (by rw [hacc]; omega) (by show (acc.push _).size ≤ sizeLine + 1; rw [Array.size_push, hacc]; omega)
    · refine Items3.push ((hit.keep fun q o hq _ e => kp q o (.inr hq) e).keep fun q o _ hq e => oth q o hq e) hnT (Nat.ne_of_gt hSl) (oth _ _ (Nat.ne_of_gt hSl) tri) ?_ ?_ ?_
      · rw [hacc]; exact ex
      · rw [hacc]; exact ey
      · rw [hacc]; exact ez
    · exact hR h'' acc' c' (fun b o hb hb2 e => hk'' b o hb hb2 (oth b o hb (kp b o hb2 e))) hS'' hacc' hit'
theorem z3_start (hh : A.handled = none) (t1 : l1 < n) (t2 : l2 < n) (t3 : l3 < n) (hS6 : n + 6 ≤ S) (hxm : xs.size = m) (hym : ys.size = m) (hzm : zs.size = m) (hm : m ≤ sizeLine) (hm1 : 1 ≤ m) {s : Shared} {c : Nat} {f1 : Value}
    (Z : Z3 s.heap n l1 l2 l3 0 .none f1) (hl1 : s.heap.IsList l1 xs) (hl2 : s.heap.IsList l2 ys) (hl3 : s.heap.IsList l3 zs) (hS : s.heap.get? S = some { cls := .type "list", dict := none, data := .seq #[] c, slots := #[] })
    (hR : ∀ h' acc' c', (∀ b o, b ≠ S → (b < n ∨ n + 6 ≤ b) → s.heap.get? b = some o → h'.get? b = some o) → h'.get? S = some { cls := .type "list", dict := none, data := .seq acc' c', slots := #[] } → acc'.size = m → Items3 h' n S xs ys zs acc' → R (.ok (.ret res)) { s with heap := h' }) :
    codeAny (model prog w) A (.builtin "list.extend.loop" ⟨[.ref S, .ref (n + 5), res], []⟩) R s := by
  refine codeAny_builtin F.entry_extend_loop ?_
  rw [Around.under_plainId F.plain_extend_loop _]
  show wpAny _ A.in1 (pyNext (.ref (n + 5)) >>= _) _ _ s
  have ex : xs[0]? = some (xs[0]'(by omega)) := Array.getElem?_eq_getElem _
  have ey : ys[0]? = some (ys[0]'(by omega)) := Array.getElem?_eq_getElem _
  have ez : zs[0]? = some (zs[0]'(by omega)) := Array.getElem?_eq_getElem _
  refine wpAny_bind (next_z3_first Z hl1 hl2 hl3 t1 t2 t3 ex ey ez fun h' Z' tri hsz kp => ?_)
  have hS' := kp S _ (.inr hS6) hS
  have hSl := Heap.lt_size hS
  have hnT : n + 6 ≤ s.heap.objs.size := Nat.le_trans hS6 (Nat.le_of_lt hSl)
  show wpAny _ A.in1 (updateSeq S (·.push (.ref s.heap.objs.size)) >>= _) _ _ _
  refine wpAny_bind ?_
  have oth : ∀ b o, b ≠ S → h'.get? b = some o → (h'.update S (Obj.mapSeq (·.push (Value.ref s.heap.objs.size)))).get? b = some o := fun b o hb e => (Heap.get?_update_other _ _ (Ne.symm hb)).trans e
  refine wpAny_updateSeq hS' rfl (wpAny_pure ⟨plainId_quiet F.plain_extend_loop _, z3_loop hh t1 t2 t3 hS6 hxm hym hzm hm (m - 1) 1 _ ((#[] : Array Value).push (.ref s.heap.objs.size)) _ s.heap.objs.size _ (.bool false) rfl hm1 (Z'.keep fun q o _ hq e => oth q o (ne6 hq hS6) e) (oth _ _ (Nat.ne_of_gt hSl) tri) (.inl rfl) hnT (Nat.ne_of_gt hSl)
    ((hl1.at fun o e => kp l1 o (.inl t1) e).at fun o e => oth l1 o (ne6 (Nat.lt_of_lt_of_le t1 (Nat.le_add_right _ _)) hS6) e) ((hl2.at fun o e => kp l2 o (.inl t2) e).at fun o e => oth l2 o (ne6 (Nat.lt_of_lt_of_le t2 (Nat.le_add_right _ _)) hS6) e) ((hl3.at fun o e => kp l3 o (.inl t3) e).at fun o e => oth l3 o (ne6 (Nat.lt_of_lt_of_le t3 (Nat.le_add_right _ _)) hS6) e)
    (Heap.get?_update_self _ hS' rfl) rfl ?_ fun h'' acc' c' hk'' hS'' hacc' hit' => ?_⟩)
    (by show (#[] : Array Value).size ≤ _; simp) (by show ((#[] : Array Value).push _).size ≤ sizeLine + 1; simp)
  · exact Items3.push (acc := #[]) (fun j v e => by simp at e) hnT (Nat.ne_of_gt hSl) (oth _ _ (Nat.ne_of_gt hSl) tri) ex ey ez
  · exact hR h'' acc' c' (fun b o hb hb2 e => hk'' b o hb hb2 (oth b o hb (kp b o hb2 e))) hS'' hacc' hit'
theorem extend_z3 (hh : A.handled = none) (t1 : l1 < n) (t2 : l2 < n) (t3 : l3 < n) (hS6 : n + 6 ≤ S) (hxm : xs.size = m) (hym : ys.size = m) (hzm : zs.size = m) (hm : m ≤ sizeLine) (hm1 : 1 ≤ m) {s : Shared} {c : Nat} {f1 : Value}
    (Z : Z3 s.heap n l1 l2 l3 0 .none f1) (hl1 : s.heap.IsList l1 xs) (hl2 : s.heap.IsList l2 ys) (hl3 : s.heap.IsList l3 zs) (hS : s.heap.get? S = some { cls := .type "list", dict := none, data := .seq #[] c, slots := #[] })
    (hR : ∀ h' acc' c', (∀ b o, b ≠ S → (b < n ∨ n + 6 ≤ b) → s.heap.get? b = some o → h'.get? b = some o) → h'.get? S = some { cls := .type "list", dict := none, data := .seq acc' c', slots := #[] } → acc'.size = m → Items3 h' n S xs ys zs acc' → R (.ok (.ret res)) { s with heap := h' }) :
    wpAny (model prog w) A.in1 (Builtin.List.listExtendWith (.ref S) (.ref (n + 5)) res)
      (fun fin s' => match fin with | .done f => R (.ok f) s' | .again c' => c'.quiet = true ∧ codeAny (model prog w) A c' R s') (fun e s' => R (.error e) s') s := by
  have hSI : S ≠ n + 5 := Nat.ne_of_gt (Nat.lt_of_lt_of_le (Nat.add_lt_add_left (by decide) n) hS6)
  have hT : s.TypeIs (.ref (n + 5)) "zip" := ⟨_, Z.z, rfl⟩
  unfold Builtin.List.listExtendWith
  refine wpAny_bind (wpAny_typeOf hT ?_)
  have h1 : Builtin.List.listSameRef (.ref S) (.ref (n + 5)) = false := by simp [Builtin.List.listSameRef, hSI]
  have h2 : (Value.type "zip" == Value.type "list") = false := by decide
  have h3 : (Value.type "zip" == Value.type "tuple") = false := by decide
  simp only [h1, h2, h3, Bool.or_false, Bool.false_eq_true, if_false]
  refine wpAny_bind (iter_z3 Z.z ?_)
  refine wpAny_bind (wpAny_holding ?_)
  unfold Builtin.List.listLengthHint
  refine wpAny_bind (wpAny_specialOf hT zip_no_len ?_)
  show wpAny _ A.in1 (specialOf (Value.ref (n + 5)) (Str.ofString "__length_hint__") >>= _) _ _ _
  refine wpAny_bind (wpAny_specialOf hT zip_no_hint ?_)
  refine wpAny_pure ?_
  show wpAny _ A.in1 (rule "list.extend.makes-room" >>= fun _ => Builtin.List.listTouch (.ref S) >>= fun _ =>
    again (.builtin "list.extend.loop" ⟨[.ref S, .ref (n + 5), res], []⟩)) _ _ _
  refine wpAny_bind (wpAny_rule ?_)
  refine wpAny_bind ?_
  show wpAny _ A.in1 (updateSeq S (·.push .none) >>= fun _ => updateSeq S (·.pop)) _ _ _
  refine wpAny_bind (wpAny_updateSeq hS rfl ?_)
  have hS₂ := Heap.get?_update_self (Obj.mapSeq (·.push Value.none)) hS rfl
  refine wpAny_updateSeq (hz := by seq_fits) hS₂ rfl ?_
  have hS₃ := Heap.get?_update_self (Obj.mapSeq (·.pop)) hS₂ rfl
  have oth : ∀ b o, b ≠ S → s.heap.get? b = some o → ((s.heap.update S (Obj.mapSeq (·.push Value.none))).update S (Obj.mapSeq (·.pop))).get? b = some o :=
    fun b o hb e => (Heap.get?_update_other _ _ (Ne.symm hb)).trans ((Heap.get?_update_other _ _ (Ne.symm hb)).trans e)
  refine wpAny_pure ⟨plainId_quiet F.plain_extend_loop _, z3_start hh t1 t2 t3 hS6 hxm hym hzm hm hm1 (Z.keep fun q o _ hq e => oth q o (ne6 hq hS6) e) (hl1.at fun o e => oth l1 o (ne6 (Nat.lt_of_lt_of_le t1 (Nat.le_add_right _ _)) hS6) e) (hl2.at fun o e => oth l2 o (ne6 (Nat.lt_of_lt_of_le t2 (Nat.le_add_right _ _)) hS6) e) (hl3.at fun o e => oth l3 o (ne6 (Nat.lt_of_lt_of_le t3 (Nat.le_add_right _ _)) hS6) e) hS₃ fun h' acc' c' kp hS' ha hit => ?_⟩
  exact hR h' acc' c' (fun b o hb hb2 e => kp b o hb hb2 (oth b o hb e)) hS' ha hit
theorem init_z3 (hh : A.handled = none) (t1 : l1 < n) (t2 : l2 < n) (t3 : l3 < n) (hS6 : n + 6 ≤ S) (hxm : xs.size = m) (hym : ys.size = m) (hzm : zs.size = m) (hm : m ≤ sizeLine) (hm1 : 1 ≤ m) {s : Shared} {f1 : Value}
    (Z : Z3 s.heap n l1 l2 l3 0 .none f1) (hl1 : s.heap.IsList l1 xs) (hl2 : s.heap.IsList l2 ys) (hl3 : s.heap.IsList l3 zs) (hS : s.heap.get? S = some { cls := .type "list", data := .seq #[] })
    (hR : ∀ h' acc' c', (∀ b o, b ≠ S → (b < n ∨ n + 6 ≤ b) → s.heap.get? b = some o → h'.get? b = some o) → h'.get? S = some { cls := .type "list", dict := none, data := .seq acc' c', slots := #[] } → acc'.size = m → Items3 h' n S xs ys zs acc' → R (.ok (.ret .none)) { s with heap := h' }) :
    wpAny (model prog w) A.in1 (Builtin.«list.__init__» ⟨[.ref S, .ref (n + 5)], []⟩)
      (fun fin s' => match fin with | .done f => R (.ok f) s' | .again c' => c'.quiet = true ∧ codeAny (model prog w) A c' R s') (fun e s' => R (.error e) s') s := by
  show wpAny _ A.in1 (do let old ← Builtin.List.listItems (.ref S); Builtin.List.listUpdate (.ref S) (fun _ => #[]); letGo old.toList.reverse; Builtin.List.listExtendWith (.ref S) (.ref (n + 5)) .none) _ _ s
  refine wpAny_bind ?_
  unfold Builtin.List.listItems
  refine wpAny_bind (wpAny_seqItems hS rfl (wpAny_pure ?_))
  show wpAny _ A.in1 (updateSeq S (fun _ => #[]) >>= fun _ => letGo (#[] : Array Value).toList.reverse >>= fun _ => Builtin.List.listExtendWith (.ref S) (.ref (n + 5)) .none) _ _ s
  refine wpAny_bind (wpAny_updateSeq hS rfl ?_)
  have hS₂ := Heap.get?_update_self (Obj.mapSeq (fun _ => (#[] : Array Value))) hS rfl
  have oth : ∀ b o, b ≠ S → s.heap.get? b = some o → (s.heap.update S (Obj.mapSeq (fun _ => (#[] : Array Value)))).get? b = some o :=
    fun b o hb e => (Heap.get?_update_other _ _ (Ne.symm hb)).trans e
  refine wpAny_bind (wpAny_letGo ?_)
  refine extend_z3 hh t1 t2 t3 hS6 hxm hym hzm hm hm1 (Z.keep fun q o _ hq e => oth q o (ne6 hq hS6) e) (hl1.at fun o e => oth l1 o (ne6 (Nat.lt_of_lt_of_le t1 (Nat.le_add_right _ _)) hS6) e) (hl2.at fun o e => oth l2 o (ne6 (Nat.lt_of_lt_of_le t2 (Nat.le_add_right _ _)) hS6) e) (hl3.at fun o e => oth l3 o (ne6 (Nat.lt_of_lt_of_le t3 (Nat.le_add_right _ _)) hS6) e) hS₂ fun h' acc' c' kp hS' ha hit => ?_
  exact hR h' acc' c' (fun b o hb hb2 e => kp b o hb hb2 (oth b o hb e)) hS' ha hit
end
section
variable {prog : Program} {w : World} {A : Around} {E : Value → Shared → Prop} {s : Shared}
theorem call_list_z3 {Q : Value → Shared → Prop} {n m : Nat} {l1 l2 l3 : Addr} {xs ys zs : Array Value} {f1 : Value} (hh : A.handled = none) (t1 : l1 < n) (t2 : l2 < n) (t3 : l3 < n) (hxm : xs.size = m) (hym : ys.size = m) (hzm : zs.size = m) (hm : m ≤ sizeLine) (hm1 : 1 ≤ m)
    (Z : Z3 s.heap n l1 l2 l3 0 .none f1) (hsz : n + 6 ≤ s.heap.objs.size) (hl1 : s.heap.IsList l1 xs) (hl2 : s.heap.IsList l2 ys) (hl3 : s.heap.IsList l3 zs)
    (hQ : ∀ h' acc' c', (∀ b o, b < n → s.heap.get? b = some o → h'.get? b = some o) → h'.get? s.heap.objs.size = some { cls := .type "list", dict := none, data := .seq acc' c', slots := #[] } → acc'.size = m → Items3 h' n s.heap.objs.size xs ys zs acc' →
      Q (.ref s.heap.objs.size) { s with heap := h' }) :
    wpAny (model prog w) A (call (.type "list") [.ref (n + 5)]) Q E s := by
  refine callType_codes (Q₁ := fun obj s₁ => obj = .ref s.heap.objs.size ∧ s₁ = { s with heap := s.heap.push { cls := .type "list", data := .seq #[] } }) F.called_list (F.typeCall_list_1 _) F.entry_list_init
    (code_list_new _ ⟨rfl, rfl⟩) fun obj s₁ h₁ => ?_
  obtain ⟨rfl, rfl⟩ := h₁
  have hS : (s.heap.push { cls := .type "list", data := .seq #[] }).get? s.heap.objs.size = some { cls := .type "list", data := .seq #[] } := Heap.get?_push_size _ rfl
  have up : ∀ b o, s.heap.get? b = some o → (s.heap.push { cls := .type "list", data := .seq #[] }).get? b = some o := fun b o e => Heap.get?_push_of_some _ e
  refine ⟨⟨_, hS, rfl⟩, F.args_list_init_2 _ _, init_z3 (A := A.in1) hh t1 t2 t3 hsz hxm hym hzm hm hm1 (Z.keep fun q o _ _ e => up q o e) (hl1.at fun o e => up _ o e) (hl2.at fun o e => up _ o e) (hl3.at fun o e => up _ o e) hS fun h' acc' c' kp hS' ha hit => ?_⟩
  exact ⟨rfl, hQ h' acc' c' (fun b o hb e => kp b o (Nat.ne_of_lt (Nat.lt_of_lt_of_le hb (Nat.le_trans (Nat.le_add_right _ _) hsz))) (.inl hb) (up b o e)) hS' ha hit⟩
end
end Cut
set_option Elab.async false
set_option linter.all false
set_option maxRecDepth 100000
set_option maxHeartbeats 4000000
namespace Cut
open PySem
section
variable {prog : Program} {w : World} {A : Around} {E : Value → Shared → Prop} {s : Shared}
theorem z3_end0 {n i : Nat} {l1 l2 l3 : Addr} {xs : Array Value} {f1 : Value} {Q : Fin → Shared → Prop} (hh : A.handled = none) (Z : Z3 s.heap n l1 l2 l3 i .none f1) (hl1 : s.heap.IsList l1 xs) (t1 : l1 < n) (hx : xs[i]? = none)
    (hE : ∀ h' e, (∀ c o, (c < n ∨ n + 6 ≤ c) → s.heap.get? c = some o → h'.get? c = some o) → (∃ o, h'.get? e = some o ∧ o.cls = .type "StopIteration") → E (.ref e) { s with heap := h' }) :
    wpAny (model prog w) A (Builtin.«zip.__next__» ⟨[.ref (n + 5)], []⟩) Q E s := by
  obtain ⟨hzz, hTI, ⟨a, b, c, hTO⟩, h1, h2, h3⟩ := Z
  show wpAny _ _ (field (.ref (n + 5)) 2 >>= _) _ _ _
  refine wpAny_bind (wpAny_field hzz rfl (x := .bool false) rfl ?_)
  show wpAny _ _ (field (.ref (n + 5)) 3 >>= _) _ _ _
  refine wpAny_bind (wpAny_field hzz rfl (x := .ref (n + 3)) rfl ?_)
  refine wpAny_bind (wpAny_seqItems hTI rfl ?_)
  show wpAny _ _ (Builtin.SmallTypes.ownedTupleIsFree (.ref (n + 5)) >>= _) _ _ _
  refine wpAny_bind ?_
  unfold Builtin.SmallTypes.ownedTupleIsFree
  refine wpAny_bind (wpAny_field hzz rfl (x := .none) rfl (wpAny_pure ?_))
  simp only [if_true]
  refine wpAny_bind (wpAny_rule ?_)
  refine wpAny_bind (wpAny_field hzz rfl (x := .ref (n + 4)) rfl ?_)
  refine wpAny_bind (wpAny_setField_rec hzz (by simp) fun g1 hz1 s1 => ?_)
  replace hz1 : IsZ3 g1 n .ellipsis f1 := hz1
  refine wpAny_bind ?_
  simp only [List.zipIdx_cons, List.zipIdx_nil, List.forIn_cons, List.forIn_nil]
  refine wpAny_bind (wpAny_bind (wpAny_onRaise ?_))
  show wpAny _ _ (Builtin.SmallTypes.nextOf (.ref (n + 0)) >>= _) _ _ _
  refine wpAny_bind (wpAny_nextOf_list_end hh (h1.extBut s1.extBut (na (by decide))) (hl1.extBut s1.extBut (la t1)) hx fun g2 e s2 he => ?_)
  obtain ⟨oe, hoe, hce⟩ := he
  have hz2 : IsZ3 g2 n .ellipsis f1 := s2 _ _ (na (by decide)) hz1
  have hez : e ≠ n + 5 := fun x => by subst x; rw [hz2] at hoe; cases hoe; simp at hce
  refine wpAny_setField_rec hz2 (by simp) fun g3 _ s3 => hE g3 e (fun q o hq x => s3.extBut _ _ (oa (by decide) hq) (s2 _ _ (oa (by decide) hq) (s1.extBut _ _ (oa (by decide) hq) x))) ⟨oe, s3.extBut _ _ hez hoe, hce⟩
theorem next_z3_end0 {n i : Nat} {l1 l2 l3 : Addr} {xs : Array Value} {f1 : Value} {Q : Option Value → Shared → Prop} (hh : A.handled = none) (Z : Z3 s.heap n l1 l2 l3 i .none f1) (hl1 : s.heap.IsList l1 xs) (t1 : l1 < n) (hx : xs[i]? = none)
    (hQ : ∀ h', (∀ c o, (c < n ∨ n + 6 ≤ c) → s.heap.get? c = some o → h'.get? c = some o) → Q none { s with heap := h' }) : wpAny (model prog w) A (pyNext (.ref (n + 5))) Q E s := by
  have hTy : s.TypeIs (.ref (n + 5)) "zip" := ⟨_, Z.z, rfl⟩
  unfold pyNext
  refine wpAny_bind (wpAny_attempt (wpAny_callSpecial?_slot (name := Str.ofString "__next__") hTy F.slot_zip_next
    (wpAny_call_entry F.slot_zip_next hTy F.entry_zip_next (z3_end0 hh Z hl1 t1 hx fun h' e hk he => ?_) (F.args_zip_next_1 _))))
  obtain ⟨o, ho, hc⟩ := he
  refine wpAny_bind (wpAny_isInstance (T := "StopIteration") (b := true) ⟨o, ho, hc⟩ isSubtype_stop ?_)
  exact wpAny_pure (hQ _ hk)
theorem letgo_z3 {elts : List Expr} {x1} {pos : Pos} {n : Nat} {T : Addr} {f1 : Value} {Q : Unit → Shared → Prop} (hz : IsZ3 s.heap n (rawInt T) f1)
    (hQ : ∀ h', IsZ3 h' n .none f1 → Heap.SameBut (n + 5) s.heap h' → Q () { s with heap := h' }) : wpAny (model prog w) A (letOwnedTupleGo (.Tuple elts x1 pos) (.ref (n + 5)) (.ref T)) Q E s := by
  unfold letOwnedTupleGo
  refine wpAny_bind (wpAny_load hz ?_)
  show wpAny _ _ (if (["enumerate", "zip", "dict_itemiterator", "dict_reverseitemiterator", "odict_iterator", "itertools.zip_longest", "itertools.pairwise"].contains "zip" &&
      (#[rawInt T, f1, .bool false, .ref (n + 3), .ref (n + 4)] : Array Value)[0]? == some (rawInt T)) = true then _ else _) Q E s
  rw [if_pos (by simp)]
  refine wpAny_bind (wpAny_rule ?_)
  show wpAny _ _ (setField (.ref (n + 5)) 0 .none) Q E s
  exact wpAny_setField_rec hz (by simp) fun h' hz' hs' => hQ h' hz' hs'
end
end Cut
namespace L2
open PySem PySem.Spec PyProof.Rows Cut
/-! ### for x, y, z in zip(three lists of one length) -/
def Itz3 (K : PySem.W.Frag) (a b c : Addr) : It :=
  ⟨fun i H => ∃ xs ys zs x y z, SqL K H a xs ∧ SqL K H b ys ∧ SqL K H c zs ∧ xs[i]? = some x ∧ ys[i]? = some y ∧ zs[i]? = some z,
   fun i H v H' => ∃ t x y z, H t = none ∧ H' = upd H t (.tup [x, y, z]) ∧ v = .ref t ∧ (∀ xs, SqL K H a xs → xs[i]? = some x) ∧ (∀ ys, SqL K H b ys → ys[i]? = some y) ∧ ∀ zs, SqL K H c zs → zs[i]? = some z,
   fun i H => ∃ xs, SqL K H a xs ∧ xs.length ≤ i⟩
abbrev fp3 (n : Nat) : List Addr := [n + 5, n + 4, n + 3, n + 2, n + 1, n + 0]
theorem fp3_mem {n c : Nat} : c ∈ fp3 n ↔ n ≤ c ∧ c < n + 6 := by
  simp only [fp3, List.mem_cons, List.not_mem_nil, or_false]
  constructor
  · rintro (h | h | h | h | h | h) <;> (rw [h]; exact ⟨Nat.le_add_right _ _, Nat.add_lt_add_left (by decide) _⟩)
  · rintro ⟨h1, h2⟩
    have h3 : c - n < 6 := by omega
    have h4 : c = n + (c - n) := by omega
    generalize c - n = j at h3 h4
    subst h4
    match j, h3 with
    | 0, _ => simp
    | 1, _ => simp
    | 2, _ => simp
    | 3, _ => simp
    | 4, _ => simp
    | 5, _ => simp
theorem turn_zip3 {P : Program} {w : World} {K : PySem.W.Frag} {es : List Expr} {k : Nat} {tp : Pos} (a b c : Addr) (n : Nat) (ta : a < n) (tb : b < n) (tc : c < n) :
    Turn P w K (.Tuple es k tp) (Itz3 K a b c) (fp3 n) (n + 5) (fun i h => Z3 h n a b c i .none (.bool false)) where
  mem := by simp [fp3]
  obj := fun i h Z d hd => by
    obtain ⟨hz, hTI, ⟨c1, d1, e1, hTO⟩, ⟨o1, q1, _, p1⟩, ⟨o2, q2, _, p2⟩, ⟨o3, q3, _, p3⟩⟩ := Z
    simp only [fp3, List.mem_cons, List.not_mem_nil, or_false] at hd
    rcases hd with rfl | rfl | rfl | rfl | rfl | rfl
    · exact ⟨_, hz, fun v y => by cases y⟩
    · exact ⟨_, hTO, fun v y => by cases y⟩
    · exact ⟨_, hTI, fun v y => by cases y⟩
    · exact ⟨o3, q3, fun v y => by rw [p3] at y; cases y⟩
    · exact ⟨o2, q2, fun v y => by rw [p2] at y; cases y⟩
    · exact ⟨o1, q1, fun v y => by rw [p1] at y; cases y⟩
  keep := fun i h h' Z kp => Z.keep fun q o h1 h2 e => kp q (fp3_mem.mpr ⟨h1, h2⟩) o e
  item := by
    intro X hP hw hK hc i pins s σ H E I hf Z hg
    subst hP hw hK
    obtain ⟨xs, ys, zs, x, y, z, hqa, hqb, hqc, hx, hy, hz⟩ := hg
    obtain ⟨its, rva, pa, _⟩ := I.list hqa
    obtain ⟨jts, rvb, pb, _⟩ := I.list hqb
    obtain ⟨kts, rvc, pc, _⟩ := I.list hqc
    obtain ⟨u, hu, ru⟩ := rva.get hx
    obtain ⟨v, hv, rv⟩ := rvb.get hy
    obtain ⟨w', hw', rw'⟩ := rvc.get hz
    have hsz : n + 6 ≤ s.heap.objs.size := Nat.succ_le_of_lt (Heap.lt_size Z.z)
    refine next_z3_first Z pa.isList pb.isList pc.isList ta tb tc (x := u) (y := v) (z := w') (by simpa using hu) (by simpa using hv) (by simpa using hw') fun h3 Z3' tri hs3 kp => ?_
    refine ⟨_, rfl, letgo_z3 Z3'.z fun h4 z4 sb => ?_⟩
    have kp2 : ∀ d o, d ∉ fp3 n → s.heap.get? d = some o → h4.get? d = some o := fun d o hd q => by
      have hd' : d < n ∨ n + 6 ≤ d := by
        by_cases h : d < n
        · exact .inl h
        · exact .inr (Nat.not_lt.mp fun h2 => hd (fp3_mem.mpr ⟨Nat.not_lt.mp h, h2⟩))
      exact (sb.2 d (oa (by decide) hd')).trans (kp d o hd' q)
    have tup2 : h4.get? s.heap.objs.size = some { cls := .type "tuple", data := .seq #[u, v, w'] } := (sb.2 _ (oa (by decide) (.inr hsz))).trans tri
    have Hnew : H s.heap.objs.size = none := I.hok.fresh (Nat.le_refl _)
    have ne1 : ∀ d o, H d = some o → d ∉ fp3 n := fun d o q hd => by
      rw [(hf d hd).1] at q
      cases q
    have I1 : Inv X pins σ (upd H s.heap.objs.size (.tup [x, y, z])) { s with heap := h4 } := by
      refine I.step (g' := s.gens) (t' := s.toks) (d' := s.drawn) (ch := fp3 n) (fun d hd => ?_) (fun d o _ _ hd q _ => kp2 d o hd q) (fun d o _ _ hd q _ => ⟨o.slots, kp2 d o hd q⟩) (fun d o hd q n1 => ?_) (fun d o hd q => ⟨o, kp2 d o hd q⟩) (fun d zs q => ?_) (fun d o v q => ?_) (fun d ps q => ?_) (fun m hm => ?_) ?_ I.bare
      · obtain ⟨_, f1, _, f3, f4, f5⟩ := hf d hd
        exact ⟨f3, f1, f4, f5⟩
      · rw [upd_ne (Nat.ne_of_lt (Heap.lt_size q))]; exact n1
      · rw [upd_ne (ne_of_none q Hnew)]; exact q
      · rw [upd_ne (ne_of_none q Hnew)]; exact q
      · exact ⟨#[], by rw [upd_ne (ne_of_none q Hnew), q]; simp⟩
      · obtain ⟨o, es', ep, ho, r⟩ := hm
        exact ⟨o, es', ep, kp2 _ o (fun hd => (hf _ hd).2.1 rfl) ho, r⟩
      · intro d o q
        by_cases hb : d = s.heap.objs.size
        · subst hb
          rw [upd_same] at q
          cases q
          exact ⟨by show 3 ≤ sizeLine; decide, [u, v, w'], .cons ru (.cons rv (.cons rw' .nil)), _, tup2, rfl, 0, rfl⟩
        · rw [upd_ne hb] at q
          refine (I.hok d o q).stay (fun c' v' hd r => kp2 c' v' ?_ r) (fun c' r => ?_) (fun c' zs r => ?_)
          · rcases hd with e | e
            · rw [e]; exact ne1 d o q
            · exact ne1 c' _ e
          · rw [upd_ne (ne_of_none r Hnew)]; exact r
          · rw [upd_ne (ne_of_none r Hnew)]; exact r
    refine ⟨.ref s.heap.objs.size, _, I1, rfl, ⟨s.heap.objs.size, x, y, z, Hnew, rfl, rfl, fun zs hz' => by rw [I.list_inj hz' hqa]; exact hx, fun zs hz' => by rw [I.list_inj hz' hqb]; exact hy, fun zs hz' => by rw [I.list_inj hz' hqc]; exact hz⟩, ?_, fun d hd => ?_⟩
    · have oth : ∀ d o, d ≠ n + 5 → h3.get? d = some o → h4.get? d = some o := fun d o hd e => (sb.2 d hd).trans e
      obtain ⟨_, hTI, ⟨c1, d1, e1, hTO⟩, i1, i2, i3⟩ := Z3'
      exact ⟨z4, oth _ _ (na (by decide)) hTI, ⟨c1, d1, e1, oth _ _ (na (by decide)) hTO⟩, i1.at fun o q => oth _ o (na (by decide)) q, i2.at fun o q => oth _ o (na (by decide)) q, i3.at fun o q => oth _ o (na (by decide)) q⟩
    · have hlt := (fp3_mem.mp hd).2
      rw [upd_ne (Nat.ne_of_lt (Nat.lt_of_lt_of_le hlt hsz))]; exact (hf d hd).1
  done := by
    intro X hP hw hK hc i pins s σ H E I hf Z hg
    subst hP hw hK
    obtain ⟨xs, hqa, hx⟩ := hg
    obtain ⟨its, rva, pa, _⟩ := I.list hqa
    have la := rva.length
    refine next_z3_end0 (I.ok.hd hc) Z pa.isList ta (Array.getElem?_eq_none (by rw [List.size_toArray]; omega)) fun h' kp => ⟨rfl, ?_⟩
    have kp2 : ∀ d o, d ∉ fp3 n → s.heap.get? d = some o → h'.get? d = some o := fun d o hd q => by
      refine kp d o ?_ q
      by_cases h : d < n
      · exact .inl h
      · exact .inr (Nat.not_lt.mp fun h2 => hd (fp3_mem.mpr ⟨Nat.not_lt.mp h, h2⟩))
    have ne1 : ∀ d o, H d = some o → d ∉ fp3 n := fun d o q hd => by
      rw [(hf d hd).1] at q
      cases q
    refine I.step (g' := s.gens) (t' := s.toks) (d' := s.drawn) (ch := fp3 n) (fun d hd => ?_) (fun d o _ _ hd q _ => kp2 d o hd q) (fun d o _ _ hd q _ => ⟨o.slots, kp2 d o hd q⟩) (fun d o hd q n1 => n1) (fun d o hd q => ⟨?_, ?_⟩) (fun _ _ e => e) (fun _ _ _ e => e) (fun d ps e => ⟨#[], by rw [e]; simp⟩) (fun m hm => ?_) (fun d u e => ?_) I.bare
    · obtain ⟨_, f1, _, f3, f4, f5⟩ := hf d hd
      exact ⟨f3, f1, f4, f5⟩
    · exact o
    · exact kp2 d o hd q
    · obtain ⟨o, es', ep, ho, r⟩ := hm
      exact ⟨o, es', ep, kp2 _ o (fun hd => (hf _ hd).2.1 rfl) ho, r⟩
    · refine (I.hok d u e).stay (fun c' v hd q => kp2 c' v ?_ q) (fun _ q => q) fun _ _ q => q
      rcases hd with y | y
      · rw [y]; exact ne1 d u e
      · exact ne1 c' _ y
  self := fun _ _ _ _ _ Z h => iter_z3 Z.z h
def iZip3 (K : PySem.W.Frag) (ta : TA) : TI := fun σ H R => ta σ H fun vs H1 => ∃ a b c xs ys zs, vs = [.ref a, .ref b, .ref c] ∧ SqL K H1 a xs ∧ SqL K H1 b ys ∧ SqL K H1 c zs ∧ R (Itz3 K a b c) H1
theorem pi_zip3 {X : Cx} {a b c : Expr} {ta : TA} {es : List Expr} {k : Nat} {tp p pos : Pos} (hg : Gl X "zip") (hm : X.mg "zip" = none) (ha : PA X [a, b, c] ta)
    (hs : starEach [a, b, c] X.env = (false, eval a X.env) :: starEach [b, c] X.env := by rfl) (hpl : (backTo pos (starEach [b, c] X.env)).any (·.1) = false := by rfl) :
    PI X (.Tuple es k tp) (.Call (.Name "zip" p) [a, b, c] [] pos) (iZip3 X.K ta) := by
  intro pins s σ H R I h
  refine Call_ (ld_blt I hg hm boot_zip (PyProof.Rows.callWith_type1 (thn (ha pos pins s σ H _ I h) fun us s1 ⟨vs, H1, I1, r1, q1⟩ => ?_) hs hpl))
  obtain ⟨l1, l2, l3, xs, ys, zs, e, hqa, hqb, hqc, q⟩ := q1
  subst e
  obtain ⟨u, v, w, rfl, ru, rv, rw'⟩ : ∃ u v w, us = [u, v, w] ∧ RelV (.ref l1) u ∧ RelV (.ref l2) v ∧ RelV (.ref l3) w := by
    cases r1 with
    | cons r r1 => cases r1 with
      | cons r' r1 => cases r1 with
        | cons r'' r1 => cases r1; exact ⟨_, _, _, rfl, r, r', r''⟩
  obtain rfl : u = Value.ref l1 := ru
  obtain rfl : v = Value.ref l2 := rv
  obtain rfl : w = Value.ref l3 := rw'
  obtain ⟨its, rva, pa, _⟩ := I1.list hqa
  obtain ⟨jts, rvb, pb, _⟩ := I1.list hqb
  obtain ⟨kts, rvc, pc, _⟩ := I1.list hqc
  have lt1 : l1 < s1.heap.objs.size := by obtain ⟨o, e, _⟩ := pa.isList; exact Heap.lt_size e
  have lt2 : l2 < s1.heap.objs.size := by obtain ⟨o, e, _⟩ := pb.isList; exact Heap.lt_size e
  have lt3 : l3 < s1.heap.objs.size := by obtain ⟨o, e, _⟩ := pc.isList; exact Heap.lt_size e
  refine call_zip_3 pa.isList pb.isList pc.isList fun h' Z hsz kp => ?_
  have I2 : Inv X pins σ H1 { s1 with heap := h' } := I1.kept (t' := s1.toks) kp
  refine iter_z3 Z.z ?_
  refine ⟨s1.heap.objs.size + 5, fp3 s1.heap.objs.size, _, _, H1, rfl, I2, turn_zip3 l1 l2 l3 _ lt1 lt2 lt3, Z, fun d hd => ?_, q⟩
  exact I1.fpOk (fp3_mem.mp hd).1 (I1.hok.fresh (fp3_mem.mp hd).1)
theorem for_zip3 {K : PySem.W.Frag} {a b c : Addr} {xs ys zs : List V} {g : TG} {tb : TS} {D : Ends} {σ : St} {H : Hp} (n : Nat) (hx : xs.length = n) (hy : ys.length = n) (hz : zs.length = n) (Pv : Nat → St → Hp → Prop) (h0 : Pv 0 σ H) (hl : ∀ i σ H, i ≤ n → Pv i σ H → SqL K H a xs ∧ SqL K H b ys ∧ SqL K H c zs)
    (hs : ∀ (i : Nat) (x y z : V) (t : Addr) (σ : St) (H : Hp), xs[i]? = some x → ys[i]? = some y → zs[i]? = some z → H t = none → Pv i σ H → g (.ref t) σ (upd H t (.tup [x, y, z])) fun σ2 H2 => tb { D with nx := Pv (i + 1), ct := Pv (i + 1), bk := D.nx } σ2 H2) (hd : ∀ σ H, Pv n σ H → D.nx σ H) :
    ∃ W : Nat → Nat → St → Hp → Prop, (∃ m, W 0 m σ H) ∧ ∀ i m σ H, W i m σ H →
      ((Itz3 K a b c).stop i H ∧ D.nx σ H) ∨ ((Itz3 K a b c).go i H ∧ ∃ N : St → Hp → Prop, (∀ σ' H', N σ' H' → ∃ m', m' < m ∧ W (i + 1) m' σ' H') ∧ ∀ x H', (Itz3 K a b c).yld i H x H' → g x σ H' fun σ2 H2 => tb { D with nx := N, ct := N, bk := D.nx } σ2 H2) := by
  refine ⟨fun i m σ H => m = n - i ∧ i ≤ n ∧ Pv i σ H, ⟨n, rfl, Nat.zero_le _, h0⟩, ?_⟩
  rintro i m σ H ⟨rfl, hi, p⟩
  obtain ⟨q1, q2, q3⟩ := hl i σ H hi p
  by_cases hlt : i < n
  · have ex : xs[i]? = some (xs[i]'(by omega)) := List.getElem?_eq_getElem _
    have ey : ys[i]? = some (ys[i]'(by omega)) := List.getElem?_eq_getElem _
    have ez : zs[i]? = some (zs[i]'(by omega)) := List.getElem?_eq_getElem _
    refine .inr ⟨⟨xs, ys, zs, _, _, _, q1, q2, q3, ex, ey, ez⟩, Pv (i + 1), fun σ' H' p' => ⟨n - (i + 1), by omega, rfl, hlt, p'⟩, fun v H' y => ?_⟩
    obtain ⟨t, x, y, z, ht, e1, e2, y1, y2, y3⟩ := y
    subst e1 e2
    exact hs i x y z t σ H (y1 _ q1) (y2 _ q2) (y3 _ q3) ht p
  · have hin : i = n := by omega
    subst hin
    exact .inl ⟨⟨xs, q1, by omega⟩, hd σ H p⟩
end L2
set_option Elab.async false
set_option linter.all false
set_option maxRecDepth 100000
set_option maxHeartbeats 4000000
namespace Cut
open PySem PySem.Spec L2 PyProof.Rows
/-! ### an exception in flight, its dict told, too -/
structure Fly (B : Heap) (l : List Env) (e : Addr) (cls fl : Value) (h : Heap) : Prop where
  st : B.StaysIn h
  ne : B.get? e = none
  fr : h.FunFrames B l
  ex : ∃ oe vs T oT ts, h.get? e = some oe ∧ oe.cls = cls ∧ oe.dict = none ∧ oe.data = .fields vs ∧ vs[1]? = some (.ref T) ∧ B.get? T = none ∧ T ≠ e ∧ h.get? T = some oT ∧ oT.data = .fields ts ∧ ts[3]? = some fl
theorem mapF_dict (o : Obj) (g : Array Value → Array Value) : (o.mapFields g).dict = o.dict := by
  obtain ⟨c, d, dt, sl⟩ := o
  cases dt <;> rfl
section
variable {M : Model} {A : Around} {E : Value → Shared → Prop} {s : Shared} {B : Heap} {env : Env} {outer : List Env} {L e : Addr} {oe : Obj} {vs : Array Value} {head : Value} {Q : Unit → Shared → Prop}
/-- what the note of a frame leaves: e with a new entry T, all others as they were, the frames' slots aside -/
def NoteQ (env : Env) (outer : List Env) (L e : Addr) (oe : Obj) (h h' : Heap) : Prop := ∃ T oT ts, h'.get? e = some (oe.mapFields (·.setIfInBounds 1 (.ref T))) ∧ T ≠ e ∧ h'.get? T = some oT ∧ oT.data = .fields ts ∧ ts[3]? = some (rawInt L) ∧ h.get? T = none ∧
  ∀ b o, b ≠ e → h.get? b = some o → (b ∉ frs (env :: outer) → h'.get? b = some o) ∧ ∃ sl, h'.get? b = some { o with slots := sl }
theorem note_tail {b0 : Bool} (hA : A.frames = some (env :: outer)) (hF : s.heap.FunFrames B (env :: outer)) (hL : env.frame = some L) (hE : s.heap.get? e = some oe) (hD : oe.data = .fields vs) (hS : 1 < vs.size) (k : ∀ h', NoteQ env outer L e oe s.heap h' → Q () { s with heap := h' }) :
    wpAny M A (do let a ← frameOf env; let pl ← entryPlaceOf L b0; let n ← EntryCells.newEntry head a .none (rawInt L) .none pl; setField (.ref e) 1 n) Q E s := by
  have eF : e ∉ frs (env :: outer) := fun z => by
    obtain ⟨_, o3, e3, nf⟩ := hF.mem z
    rw [hE] at e3
    cases e3
    exact nf vs hD
  refine wpAny_bind (wpAny_frameOf_fun hA hF hL fun ha sl => wpAny_bind (wpAny_entryPlaceOf fun pl hpl => ?_))
  have hE1 : ha.get? e = some oe := (sl.2.1 e eF).trans hE
  unfold EntryCells.newEntry newFields
  refine wpAny_bind (wpAny_newObj_type ?_ (hpl.sizeOk5 _ _ _ _ _))
  generalize hob : ({ cls := .type "traceback", dict := none, data := .fields ([head, .ref L, .none, rawInt L, .none] ++ (if pl.isEmpty then List.replicate 6 Value.none else pl)).toArray } : Obj) = tob
  have hE2 : (ha.push tob).get? e = some oe := Heap.get?_push_of_some tob hE1
  have nfr : tob.isFreed = false := by subst hob; rfl
  have hT2 : (ha.push tob).get? ha.objs.size = some tob := Heap.get?_push_size ha nfr
  have hne : ha.objs.size ≠ e := Nat.ne_of_gt (Heap.lt_size hE1)
  refine wpAny_setField hE2 hD hS (k _ ?_)
  have hD2 := Obj.data_mapFields hD (·.setIfInBounds 1 (Value.ref ha.objs.size))
  refine ⟨ha.objs.size, tob, ([head, .ref L, .none, rawInt L, .none] ++ (if pl.isEmpty then List.replicate 6 Value.none else pl)).toArray, Heap.get?_update_self _ hE2 (Obj.isFreed_of_fields hD2), hne, (Heap.get?_update_other _ _ (Ne.symm hne)).trans hT2, by subst hob; rfl, by simp, ?_, fun b o hb q => ?_⟩
  · have : s.heap.objs.size = ha.objs.size := sl.1.symm
    rw [← this]
    exact Heap.get?_none_of_le (Nat.le_refl _)
  · have stay : ∀ o', ha.get? b = some o' → ((ha.push tob).update e (Obj.mapFields (·.setIfInBounds 1 (Value.ref ha.objs.size)))).get? b = some o' := fun o' q' => (Heap.get?_update_other _ _ (Ne.symm hb)).trans (Heap.get?_push_of_some tob q')
    refine ⟨fun hn => stay o ((sl.2.1 b hn).trans q), ?_⟩
    obtain ⟨sl2, e2⟩ := sl.2.2 b o q
    exact ⟨sl2, stay _ e2⟩
/-- the first note -/
theorem note_first (hA : A.frames = some (env :: outer)) (hF : s.heap.FunFrames B (env :: outer)) (hL : env.frame = some L) (hE : s.heap.get? e = some oe) (hD : oe.data = .fields vs) (h1 : vs[1]? = some .none) (k : ∀ h', NoteQ env outer L e oe s.heap h' → Q () { s with heap := h' }) :
    wpAny M A (noteFrame (.ref e) env) Q E s := by
  unfold noteFrame
  simp only [hL]
  refine wpAny_bind (wpAny_field hE hD h1 ?_)
  rw [if_neg (by decide)]
  exact note_tail hA hF hL hE hD (Array.getElem?_eq_some_iff.mp h1).1 k
theorem no_fields {h : Heap} {T : Addr} {oT : Obj} {ts : Array Value} (hT : h.get? T = some oT) (hd : oT.data = .fields ts) : ∀ b o, h.get? b = some o → (∀ vs, o.data ≠ .fields vs) → b ≠ T := fun b o q nf z => by
  rw [z, hT] at q
  cases q
  exact nf ts hd
/-- a later note -/
theorem fly_note {cls : Value} (hA : A.frames = some (env :: outer)) (hL : env.frame = some L) (fl : Fly B (env :: outer) e cls .none s.heap) (k : ∀ h', Fly B (env :: outer) e cls (rawInt L) h' → s.heap.UpToSlots h' → Q () { s with heap := h' }) : wpAny M A (noteFrame (.ref e) env) Q E s := by
  obtain ⟨oe, vs, T, oT, ts, hE, hc, hdi, hD, h1, nT, nTe, hT, hDT, h3⟩ := fl.ex
  unfold noteFrame
  simp only [hL]
  refine wpAny_bind (wpAny_field hE hD h1 ?_)
  rw [if_pos (by simp)]
  refine wpAny_bind (wpAny_field hT hDT h3 ?_)
  rw [if_neg (by simp [rawInt])]
  refine wpAny_bind (wpAny_setField hT hDT (Array.getElem?_eq_some_iff.mp h3).1 ?_)
  have oth : ∀ b, b ≠ T → (s.heap.update T (Obj.mapFields (·.setIfInBounds 3 Value.none))).get? b = s.heap.get? b := fun b hb => Heap.get?_update_other _ _ (Ne.symm hb)
  have nrec := no_fields hT hDT
  refine note_tail (B := B) hA (fl.fr.of_keeps fun b o q nf => ⟨o, (oth b (nrec b o q nf)).trans q, rfl⟩) hL ((oth e (Ne.symm nTe)).trans hE) hD (Array.getElem?_eq_some_iff.mp h1).1 fun h' nq => ?_
  obtain ⟨T2, oT2, ts2, e1, ne2, e2, d2, f2, n2, oths⟩ := nq
  have ene : ∀ b o, s.heap.get? b = some o → (∀ vs, o.data ≠ .fields vs) → b ≠ e := no_fields hE hD
  refine k h' ⟨fun b o q => ?_, fl.ne, ?_, ?_⟩ fun b o q nf => ?_
  · have hbe : b ≠ e := fun z => by rw [z, fl.ne] at q; cases q
    have hbT : b ≠ T := fun z => by rw [z, nT] at q; cases q
    refine (oths b o hbe ((oth b hbT).trans (fl.st b o q))).1 fun z => ?_
    rw [(fl.fr.mem z).1] at q
    cases q
  · refine fl.fr.of_keeps fun b o q nf => ?_
    obtain ⟨sl, e3⟩ := (oths b o (ene b o q nf) ((oth b (nrec b o q nf)).trans q)).2
    exact ⟨_, e3, rfl⟩
  · have hsz : 1 < vs.size := (Array.getElem?_eq_some_iff.mp h1).1
    refine ⟨_, _, T2, oT2, ts2, e1, (Obj.cls_mapFields ..).trans hc, (mapF_dict _ _).trans hdi, Obj.data_mapFields hD _, by simp [hsz], ?_, ne2, e2, d2, f2⟩
    cases q : B.get? T2 with
    | none => rfl
    | some o =>
      have hT2T : T2 ≠ T := fun z => by rw [z, nT] at q; cases q
      have := (oth T2 hT2T).trans (fl.st T2 o q)
      rw [n2] at this
      cases this
  · exact (oths b o (ene b o q nf) ((oth b (nrec b o q nf)).trans q)).2
/-- the note ahead of all others -/
theorem fly_made {h : Heap} {cls : Value} {args : List Value} (hA : A.frames = some (env :: outer)) (hL : env.frame = some L) (hst : B.StaysIn h) (hF : h.FunFrames B (env :: outer)) (hm : Heap.MadeExcOf h s.heap e cls args) (k : ∀ h', Fly B (env :: outer) e cls (rawInt L) h' → s.heap.UpToSlots h' → Q () { s with heap := h' }) :
    wpAny M A (noteFrame (.ref e) env) Q E s := by
  obtain ⟨t, hE, _, _⟩ := hm.there
  have nB : ∀ b, h.get? b = none → B.get? b = none := fun b hb => by
    cases q : B.get? b with
    | none => rfl
    | some o =>
      have := hst b o q
      rw [hb] at this
      cases this
  have hF2 : s.heap.FunFrames B (env :: outer) := hF.of_keeps fun b o q _ => ⟨o, hm.keeps b o q, rfl⟩
  refine note_first hA hF2 hL hE rfl rfl fun h' nq => ?_
  obtain ⟨T2, oT2, ts2, e1, ne2, e2, d2, f2, n2, oths⟩ := nq
  have ene := no_fields hE rfl
  refine k h' ⟨fun b o q => ?_, nB e hm.new, ?_, ?_⟩ fun b o q nf => (oths b o (ene b o q nf) q).2
  · have hbe : b ≠ e := fun z => by rw [z, nB e hm.new] at q; cases q
    refine (oths b o hbe (hm.keeps b o (hst b o q))).1 fun z => ?_
    rw [(hF.mem z).1] at q
    cases q
  · refine hF2.of_keeps fun b o q nf => ?_
    obtain ⟨sl, e3⟩ := (oths b o (ene b o q nf) q).2
    exact ⟨_, e3, rfl⟩
  · refine ⟨_, _, T2, oT2, ts2, e1, (Obj.cls_mapFields ..).trans rfl, (mapF_dict _ _).trans rfl, Obj.data_mapFields rfl _, by simp, ?_, ne2, e2, d2, f2⟩
    cases q : B.get? T2 with
    | none => rfl
    | some o =>
      have := hm.keeps _ _ (hst T2 o q)
      rw [n2] at this
      cases this
/-- it lands, or is out of the frame -/
theorem fly_land {l : List Env} {cls fl : Value} (f : Fly B l e cls fl s.heap) (k : ∀ h', Fly B l e cls .none h' → s.heap.UpToSlots h' → Q () { s with heap := h' }) : wpAny M A (setFlight (.ref e) none) Q E s := by
  obtain ⟨oe, vs, T, oT, ts, hE, hc, hdi, hD, h1, nT, nTe, hT, hDT, h3⟩ := f.ex
  have h3z : 3 < ts.size := (Array.getElem?_eq_some_iff.mp h3).1
  unfold setFlight
  refine wpAny_bind (wpAny_field hE hD h1 ?_)
  rw [if_pos (by simp)]
  have oth : ∀ b, b ≠ T → (s.heap.update T (Obj.mapFields (·.setIfInBounds 3 ((none : Option Addr).elim Value.none fun f => rawInt f)))).get? b = s.heap.get? b := fun b hb => Heap.get?_update_other _ _ (Ne.symm hb)
  have nrec := no_fields hT hDT
  have hD2 := Obj.data_mapFields hDT (·.setIfInBounds 3 ((none : Option Addr).elim Value.none fun f => rawInt f))
  refine wpAny_setField hT hDT h3z (k _ ⟨fun b o q => (oth b fun z => ?_).trans (f.st b o q), f.ne, f.fr.of_keeps fun b o q nf => ⟨o, (oth b (nrec b o q nf)).trans q, rfl⟩, ?_⟩ fun b o q nf => ⟨o.slots, (oth b (nrec b o q nf)).trans q⟩)
  · rw [z, nT] at q; cases q
  · exact ⟨oe, vs, T, _, _, (oth e (Ne.symm nTe)).trans hE, hc, hdi, hD, h1, nT, nTe, Heap.get?_update_self _ hT (Obj.isFreed_of_fields hD2), hD2, by simp [h3z]⟩
end
end Cut
set_option Elab.async false
set_option linter.all false
set_option maxRecDepth 100000
set_option maxHeartbeats 4000000
namespace Cut
open PySem PySem.Spec L2 PyProof.Rows
/-! ### exceptions: how one lies behind a call, and how it is caught -/
theorem obj_at {P : Program} {w : World} {H : Hp} {h : Heap} {a : Addr} {o : HO} (x : ObjOk P w H h a o) : ∃ ob, h.get? a = some ob := by
  cases o with
  | lst xs => obtain ⟨_, _, _, _, z⟩ := x; exact ⟨_, z⟩
  | tup xs => obtain ⟨_, _, _, ob, z, _⟩ := x; exact ⟨ob, z⟩
  | dK kvs => obtain ⟨_, _, _, _, ob, _, _, z, _⟩ := x; exact ⟨ob, z⟩
  | dT kvs => obtain ⟨_, _, _, _, ob, _, _, z, _⟩ := x; exact ⟨ob, z⟩
  | set S n => obtain ⟨ob, _, _, _, z, _⟩ := x; exact ⟨ob, z⟩
  | ins C dx fs => obtain ⟨_, _, _, z, _⟩ := x; exact ⟨_, z⟩
  | own y => exact x
  | xd fs => obtain ⟨_, ⟨ob, _, _, z, _⟩, _⟩ := x; exact ⟨ob, z⟩
  | rng lo hi => obtain ⟨_, _, _, z⟩ := x; exact ⟨_, z⟩
  | frz ob u => exact ⟨ob, x.1⟩
  | tbl ps => exact ⟨_, x⟩
  | met f y => exact ⟨_, x⟩
  | ext φ => exact x.2.1
theorem Fly.out {B h : Heap} {env : Env} {outer : List Env} {e : Addr} {cls fl : Value} (f : Fly B (env :: outer) e cls fl h) : Fly B outer e cls fl h := ⟨f.st, f.ne, f.fr.2.2, f.ex⟩
/-- an exception of the class cls flies; what stood at the call stands still, H' is held -/
def CXR (P : Program) (w : World) : CXT := fun outer H s E e s' => ∃ (x : Addr) (cls : Value) (B : Heap) (H' : Hp), e = .ref x ∧ s'.os = s.os ∧ AllBare s'.gens ∧ s.heap.get? x = none ∧ H' x = none ∧ Fly B outer x cls .none s'.heap ∧
  Un (frs outer) [] H H' s.heap s'.heap ∧ HOk P w H' s'.heap ∧ (∀ b o, b ∉ frs outer → ((∃ o0, s.heap.get? b = some o0) ∨ H' b ≠ none) → s'.heap.get? b = some o → B.get? b = some o) ∧ E cls none H'
section
variable {X : Cx} {pins : List (Addr × Obj)} {σ : L2.St} {H : Hp} {s : Shared} {B h2 : Heap}
theorem frs_cons {env : Env} {l : List Env} {L : Addr} (hf : env.frame = some L) : frs (env :: l) = L :: frs l := by
  unfold frs
  rw [List.filterMap_cons, hf]
/-- behind the frame that is left -/
theorem leave_un (I : Inv X pins σ H s) (hstk : X.stack = X.env :: X.outer) (hfr : X.env.frame = some X.env.locals) (hex : X.ex = [])
    (hB : ∀ b o, b ∉ frs X.stack → ((∃ o0, X.s₀.heap.get? b = some o0) ∨ H b ≠ none) → s.heap.get? b = some o → B.get? b = some o) (st : B.StaysIn h2) (up : s.heap.UpToSlots h2) :
    Un (frs X.outer) [] X.H₀ H X.s₀.heap h2 ∧ HOk X.prog X.w H h2 ∧ ∀ b o, b ∉ frs X.outer → ((∃ o0, X.s₀.heap.get? b = some o0) ∨ H b ≠ none) → h2.get? b = some o → B.get? b = some o := by
  have u := I.base
  rw [hex] at u
  have sub : ∀ b, b ∉ frs X.outer → ((∃ o0, X.s₀.heap.get? b = some o0) ∨ H b ≠ none) → b ∉ frs X.stack := fun b h1 h3 hb => by
    rw [hstk, frs_cons hfr] at hb
    rcases List.mem_cons.mp hb with e | e
    · subst e
      rcases h3 with ⟨o0, e0⟩ | h3
      · exact absurd (Heap.lt_size e0) (Nat.not_lt.mpr I.ok.above)
      · exact h3 I.free
    · exact h1 e
  have here : ∀ b, ((∃ o0, X.s₀.heap.get? b = some o0) ∨ H b ≠ none) → ∃ o1, s.heap.get? b = some o1 := fun b h3 => by
    rcases h3 with ⟨o0, e0⟩ | h3
    · exact u.there b o0 e0 (by simp)
    · cases q : H b with
      | none => exact absurd q h3
      | some ob => exact obj_at (I.hok b ob q)
  have kp : ∀ b o, b ∉ frs X.outer → ((∃ o0, X.s₀.heap.get? b = some o0) ∨ H b ≠ none) → s.heap.get? b = some o → h2.get? b = some o := fun b o h1 h3 e => st b o (hB b o (sub b h1 h3) h3 e)
  have trk : ∀ b ob, H b = some ob → b ∉ frs X.outer := fun b ob e hb => by
    have := I.stkFree b (by rw [hstk, frs_cons hfr]; exact List.mem_cons_of_mem _ hb)
    rw [e] at this
    cases this
  refine ⟨⟨fun b o e n hb hx => kp b o hb (.inl ⟨o, e⟩) (u.keep b o e n hb hx), fun b o e n hb hx => ?_, u.free, fun b o e hx => ?_, u.tups, u.frzs, u.tbls⟩, fun b ob e => ?_, fun b o h1 h3 e => ?_⟩
  · obtain ⟨sl, e1⟩ := u.slot b o e n hb hx
    obtain ⟨_, o3, e3, nf⟩ := I.stack.mem (b := b) (by show b ∈ frs X.stack; rw [hstk, frs_cons hfr]; exact List.mem_cons_of_mem _ hb)
    obtain ⟨sl2, e2⟩ := up b _ e1 (by rw [e1] at e3; cases e3; exact nf)
    exact ⟨sl2, e2⟩
  · obtain ⟨o1, e1⟩ := u.there b o e hx
    by_cases hb : b ∈ frs X.outer
    · obtain ⟨_, o3, e3, nf⟩ := I.stack.mem (b := b) (by show b ∈ frs X.stack; rw [hstk, frs_cons hfr]; exact List.mem_cons_of_mem _ hb)
      obtain ⟨sl2, e2⟩ := up b o3 e3 nf
      exact ⟨_, e2⟩
    · exact ⟨o1, kp b o1 hb (.inl ⟨o, e⟩) e1⟩
  · refine (I.hok b ob e).stay (fun c v hc q => ?_) (fun _ q => q) fun _ _ q => q
    rcases hc with z | z
    · subst z
      exact kp c v (trk c ob e) (.inr (by rw [e]; exact fun z => by cases z)) q
    · exact kp c v (trk c _ z) (.inr (by rw [z]; exact fun z => by cases z)) q
  · obtain ⟨o1, e1⟩ := here b h3
    have e2 := hB b o1 (sub b h1 h3) h3 e1
    have e3 := st b o1 e2
    rw [e] at e3
    cases e3
    exact e2
end
section
variable {P : Program} {w : World} {K : PySem.W.Frag} {mg : Str → Option Value} {base : Heap} {N : List Str} {qual : Str} {scope : Scope} {f : Addr} {cd : Value} {A : Around} {outer : List Env} {s : Shared} {H : Hp} {E : XK}
/-- an exception made here leaves the def -/
theorem made_xe {pins : List (Addr × Obj)} {σ : L2.St} {H1 : Hp} {s1 : Shared} {h1 : Heap} {x : Addr} {cls : Value} {vs : List Value} (I : Inv (cxOf (CXR P w) P w K mg base N qual scope f cd A outer s H E) pins σ H1 s1) (hm : Heap.MadeExcOf s1.heap h1 x cls vs) (hE : E cls none H1) :
    (cxOf (CXR P w) P w K mg base N qual scope f cd A outer s H E).xe (.ref x) { s1 with heap := h1 } := by
  let X := cxOf (CXR P w) P w K mg base N qual scope f cd A outer s H E
  have hin : ∀ env ∈ X.stack, ∀ b, env.frame = some b → b ∈ frs X.stack := fun env he b hb => List.mem_filterMap.mpr ⟨env, he, hb⟩
  show wpAny _ _ (leaving X.env (.ref x)) _ _ _
  unfold leaving
  refine wpAny_bind (fly_made (B := PySem.W.hideAll s1.heap (frs X.stack)) (h := s1.heap) (outer := outer) (L := X.env.locals) I.ok.frames rfl (fun b o q => PySem.W.of_hideAll _ q) (PySem.W.funFrames_hide I.stack hin) hm fun h1' f1 u1 => fly_land f1 fun h2 k1' k4 => ?_)
  have k1 := k1'.out
  have up : s1.heap.UpToSlots h2 := ((Heap.UpToSlots.of_keeps hm.keeps).trans u1).trans k4
  obtain ⟨u, hk, hB⟩ := leave_un (X := X) (B := PySem.W.hideAll s1.heap (frs X.stack)) I rfl rfl rfl (fun b o hb _ e => PySem.W.hideAll_get _ e hb) k1.st up
  have nx : s1.heap.get? x = none := hm.new
  have n0 : s.heap.get? x = none := by
    cases q : s.heap.get? x with
    | none => rfl
    | some o =>
      obtain ⟨o1, e1⟩ := I.base.there x o q (by show x ∉ ([] : List Addr); simp)
      rw [nx] at e1
      cases e1
  have nH : H1 x = none := by
    cases q : H1 x with
    | none => rfl
    | some o =>
      obtain ⟨o1, e1⟩ := obj_at (I.hok x o q)
      rw [nx] at e1
      cases e1
  exact ⟨x, cls, _, H1, rfl, I.os, I.bare, n0, nH, k1, u, hk, hB, hE⟩
/-- an exception of a callee leaves the def, too -/
theorem pass_on : Passes (CXR P w) (cxOf (CXR P w) P w K mg base N qual scope f cd A outer s H E) E := by
  intro pins σ H1 s1 e s2 I h
  obtain ⟨x, cls, B, H2, rfl, ho, hg, n1, nH, fl, u, hk, hB, hE⟩ := h
  let X := cxOf (CXR P w) P w K mg base N qual scope f cd A outer s H E
  have I2 : Inv X pins σ H2 s2 := I.call' (ch := []) ho u hk hg (fun b hb => absurd hb (by simp))
  show wpAny _ _ (leaving X.env (.ref x)) _ _ _
  unfold leaving
  refine wpAny_bind (fly_note (B := B) (outer := outer) (L := X.env.locals) I.ok.frames rfl fl fun h1' f1 u1 => fly_land f1 fun h2 k1' u2 => ?_)
  have k1 := k1'.out
  have k2 := u1.trans u2
  have hB' : ∀ b o, b ∉ frs X.stack → ((∃ o0, X.s₀.heap.get? b = some o0) ∨ H2 b ≠ none) → s2.heap.get? b = some o → B.get? b = some o := fun b o hb h3 e => by
    refine hB b o hb ?_ e
    rcases h3 with ⟨o0, e0⟩ | h3
    · exact .inl (I.base.there b o0 e0 (by show b ∉ ([] : List Addr); simp))
    · exact .inr h3
  obtain ⟨u2, hk2, hB2⟩ := leave_un (X := X) I2 rfl rfl rfl hB' k1.st k2
  have n0 : s.heap.get? x = none := by
    cases q : s.heap.get? x with
    | none => rfl
    | some o =>
      obtain ⟨o1, e1⟩ := I.base.there x o q (by show x ∉ ([] : List Addr); simp)
      rw [n1] at e1
      cases e1
  exact ⟨x, cls, B, H2, rfl, I2.os, I2.bare, n0, nH, k1, u2, hk2, hB2, hE⟩
end
end Cut
set_option Elab.async false
set_option linter.all false
set_option maxRecDepth 100000
set_option maxHeartbeats 4000000
namespace Cut
open PySem PySem.Spec L2 PyProof.Rows
/-! ### own classes of exceptions, all below ValueError -/
abbrev bmV : List Value := [.type "ValueError", .type "Exception", .type "BaseException", .type "object"]
structure Exc (K : PySem.W.Frag) (C : Addr) (bm : List Value) : Prop where
  look : ∃ (dd : Option Addr) (cl : ClassData) (sl : Array (Option Value)), K.lookup C = some ⟨.type "type", dd, .cls cl, sl⟩ ∧ cl.mro = .ref C :: bm
  exc : PySem.W.excIn K C bmV "ValueError.__new__" = true
def ExcObj (h : Heap) (C : Addr) (bm : List Value) (o : Obj) (N : Addr) (mN : Str → Option Value) : Prop := h.get? C = some o ∧ h.Ns N mN ∧ OwnTail h bmV bm
theorem Exc.at {K : PySem.W.Frag} {C : Addr} {bm : List Value} {h : Heap} (x : Exc K C bm) (X : K.In h) : ∃ nm q N bs hdct sn sub ab col dd k0 k1 k2 k3 k5 mN, mN "__init__" = none ∧ ExcObj h C bm (excClassObj nm q C N bs bm hdct sn sub ab col dd k0 k1 k2 k3 k5 "ValueError.__new__") N mN := by
  obtain ⟨dd, cl, sl, lk, mr⟩ := x.look
  have q := x.exc
  unfold PySem.W.excIn at q
  split at q
  · rename_i dd' cd' sl' ho
    cases lk.symm.trans ho
    split at q
    · rename_i C' bm' k0 k1 k2 k3 n k5 hm hs
      cases mr.symm.trans hm
      simp only [Bool.and_eq_true, beq_iff_eq, Bool.not_eq_true'] at q
      obtain ⟨⟨⟨⟨⟨_, rfl⟩, hdel⟩, ht⟩, hok⟩, hni⟩ := q
      obtain ⟨nm, bs, mro, ns, qn, hdct, sn, sub, ab, col, del⟩ := cl
      dsimp only at mr hdel hok hni
      subst mr hdel
      have hsl : sl = #[k0, k1, k2, k3, some (.builtin "ValueError.__new__"), k5] := by
        obtain ⟨l⟩ := sl
        simp only at hs
        rw [hs]
      subst hsl
      exact ⟨nm, qn, ns, bs, hdct, sn, sub, ab, col, dd, k0, k1, k2, k3, k5, _, PySem.W.nsMap_none_of_in X hok hni, X _ _ lk, .of_isNs (PySem.W.isNs_of_in X hok), PySem.W.tail_of_in X ht⟩
    · cases q
  · cases q
theorem ExcObj.keeps {h h' : Heap} {C : Addr} {bm : List Value} {o : Obj} {N : Addr} {mN : Str → Option Value} (x : ExcObj h C bm o N mN) (k : ∀ b o, h.get? b = some o → h'.get? b = some o) : ExcObj h' C bm o N mN :=
  ⟨k _ _ x.1, x.2.1.keeps k, x.2.2.keeps k⟩
/-- raise C(..) -/
def tRaise (E : XK) (C : Addr) (t : TA) : TS := fun _ σ H => t σ H fun vs H1 => vs.length ≤ 1000 ∧ E (.ref C) none H1
/-- exceptions of the class at C that are made here come to what is wanted -/
def Lands (X : Cx) (E : XK) (C : Addr) : Prop := ∀ (pins : List (Addr × Obj)) (σ : L2.St) (H1 : Hp) (s1 : Shared) (h1 : Heap) (z : Addr) (vs : List Value), Inv X pins σ H1 s1 → Heap.MadeExcOf s1.heap h1 z (.ref C) vs → E (.ref C) none H1 → X.xe (.ref z) { s1 with heap := h1 }
theorem ps_raise {X : Cx} {x : Str} {C : Addr} {bm : List Value} {E : XK} {np cpos pos : Pos} {e0 : Expr} {rest : List Expr} {t : TA} (hc : X.calm = true) (hg : Gl X x) (hmx : X.mg x = some (.ref C)) (ex : Exc X.K C bm) (hx : Lands X E C) (ha : PA X (e0 :: rest) t)
    (hdb : (x == ("__debug__" : Str)) = false := by decide) (he : starEach (e0 :: rest) X.env = (false, eval e0 X.env) :: starEach rest X.env := by rfl) (hpl : (backTo cpos (starEach rest X.env)).any (·.1) = false := by rfl) :
    PS X (.Raise (some (.Call (.Name x np) (e0 :: rest) [] cpos)) none pos) (tRaise E C t) := by
  intro pins s σ H D I h
  obtain ⟨nm, q, N, bs, hdct, sn, sub, ab, col, dd, k0, k1, k2, k3, k5, mN, hni, ob⟩ := ex.at I.ok.mod.kin
  have hbase : bm.contains (.type "BaseException") = true := ob.2.2.hasType (by decide +kernel)
  have hplain : (backTo cpos (starEach (e0 :: rest) X.env)).any (·.1) = false := by
    rw [he]
    show (false || (backTo cpos (starEach rest X.env)).any (·.1)) = false
    rw [hpl]
    rfl
  refine wpAny_Raise_call_subT (C := C) (nm := nm) (q := q) (N := N) (bs := bs) (bm := bm) (hdct := hdct) (sn := sn) (sub := sub) (ab := ab) (col := col) (dd := dd) (k0 := k0) (k1 := k1) (k2 := k2) (k3 := k3) (k5 := k5) PySem.F.excBase_ValueError (mN := mN) hbase (I.ok.hd hc) hplain hni (ld_glob I hg hmx ⟨rfl, ?_⟩ hdb)
  have h' := ha cpos pins s σ H _ I h
  rw [he] at h' ⊢
  refine Calls.evalArgs_plain (thn h' fun us s2 ⟨vs, H1, I1, r, hl, hE⟩ => ?_)
  have o2 := ob.keeps I1.bk
  have hl2 := r.length
  exact ⟨rfl, (show us.length ≤ sizeLine from Nat.le_of_lt (small (by omega))), o2.1, o2.2.1, o2.2.2, fun h1 z hm => hx pins σ H1 s2 h1 z us I1 hm hE⟩
/-- does the clause with the class at D take the exception of the class at C? -/
theorem matches_own {M : Model} {A : Around} {E : Value → Shared → Prop} {h : Heap} {g : Array GenState} {d : Drawn} {t : Nat} {os : OsState} {e C D N N' : Addr} {oe : Obj} {Q : Bool → Shared → Prop} {nm q nm' q' : Str} {bs bm bs' bm' : List Value} {hdct hdct' : Bool} {sn sn' : List Str} {sub sub' : List Value} {ab ab' : Bool} {col col' : Option Bool} {dd dd' : Option Addr}
    {k0 k1 k2 k3 k5 j0 j1 j2 j3 j5 : Option Value} {ni ni' : String} (hC : h.get? C = some (excClassObj nm q C N bs bm hdct sn sub ab col dd k0 k1 k2 k3 k5 ni)) (he : h.get? e = some oe) (hcls : oe.cls = .ref C)
    (hD : h.get? D = some (excClassObj nm' q' D N' bs' bm' hdct' sn' sub' ab' col' dd' j0 j1 j2 j3 j5 ni')) (hbase : bm'.contains (.type "BaseException") = true) (hb : (Value.ref C :: bm).contains (.ref D) = true)
    (hq : Q true ⟨h, g, d, t, os⟩) : wpAny M A (excMatches (.ref e) (.ref D)) Q E ⟨h, g, d, t, os⟩ := by
  have hcB : (Value.ref D :: bm').contains (.type "BaseException") = true := by rw [List.contains_cons, hbase, Bool.or_true]
  have nt := tc_notTuple
  unfold excMatches
  repeat (first | (with_reducible refine wpAny_loadPart_at he ?_; rw [hcls]) | with_reducible refine wpAny_loadPart_at hD ?_ | (with_reducible refine wpAny_isSubtype_exc hD ?_; rw [hcB]) | (with_reducible refine wpAny_isSubtype_exc hC ?_; rw [hb]) | wp_step)
  exact hq
end Cut
set_option Elab.async false
set_option linter.all false
set_option maxRecDepth 100000
set_option maxHeartbeats 4000000
namespace Cut
open PySem PySem.Spec L2 PyProof.Rows
/-! ### try .. except C as n: .. -/
/-- the same body under another wish, with pins that every state bears, perhaps within an except suite -/
abbrev Cx.alt (X : Cx) (A : Around) (c : Bool) (pn : List (Addr × Obj)) (xe : Value → Shared → Prop) : Cx := { X with A := A, calm := c, pn := pn, xe := xe }
theorem inv_alt {X : Cx} {A : Around} {c : Bool} {pn pins pins' : List (Addr × Obj)} {xe : Value → Shared → Prop} {σ : L2.St} {H : Hp} {s : Shared} (I : Inv X pins σ H s) (hA : A.frames = X.A.frames) (hc : c = true → A.handled = none) (hp : ∀ p ∈ pn ++ pins', p ∈ X.pn ++ pins) :
    Inv (Cx.alt X A c pn xe) pins' σ H s :=
  ⟨⟨I.ok.mod, I.ok.kind, I.ok.glob, I.ok.blt, I.ok.above, I.ok.inj, I.ok.has, I.ok.cab, hc, hA.trans I.ok.frames, I.ok.stk, I.ok.exf, I.ok.bs, I.ok.bsz, I.ok.noex, I.ok.exfs, I.ok.funs, I.ok.frf⟩, I.os, I.bare, I.base, I.loc, I.cell, I.free, I.freeC, fun p hq => I.pin p (hp p hq), I.hok, I.len⟩
/-- back again -/
theorem inv_back {X : Cx} {A : Around} {c : Bool} {pn pins pins' : List (Addr × Obj)} {xe : Value → Shared → Prop} {σ : L2.St} {H : Hp} {s : Shared} (ok : X.Ok) (I : Inv (Cx.alt X A c pn xe) pins' σ H s) (hp : ∀ p ∈ X.pn ++ pins, p ∈ pn ++ pins') : Inv X pins σ H s :=
  ⟨ok, I.os, I.bare, I.base, I.loc, I.cell, I.free, I.freeC, fun p hq => I.pin p (hp p hq), I.hok, I.len⟩
/-- the exception, as the suite sees it -/
def ExcAt (x : Addr) (cls : Value) (h : Heap) : Prop := ∃ ob, h.get? x = some ob ∧ ob.cls = cls ∧ ob.dict = none ∧ ∃ vs, ob.data = .fields vs
def excO (x : Addr) (cls : Value) : HO := .ext (ExcAt x cls)
theorem excO_ok {P : Program} {w : World} {H : Hp} {h : Heap} {x : Addr} {cls : Value} (e : ExcAt x cls h) : ObjOk P w H h x (excO x cls) :=
  let ⟨ob, e1, _⟩ := e
  ⟨e, ⟨ob, e1⟩, fun h1 h2 ⟨o1, e1, c1⟩ k => ⟨o1, k o1 e1, c1⟩⟩
theorem Fly.exc {B h : Heap} {l : List Env} {x : Addr} {cls fl : Value} (f : Fly B l x cls fl h) : ExcAt x cls h :=
  let ⟨oe, vs, _, _, _, h1, h2, h3, h4, _⟩ := f.ex
  ⟨oe, h1, h2, h3, vs, h4⟩
/-- it has landed here: the frames' slots aside, what stood at the call stands still -/
theorem land_inv {X : Cx} {pins : List (Addr × Obj)} {σ : L2.St} {H1 H2 : Hp} {s1 s2 : Shared} {B h5 : Heap} {x : Addr} {cls : Value} (J : Inv X pins σ H1 s1) (ho : s2.os = s1.os) (hg : AllBare s2.gens) (n1 : s1.heap.get? x = none) (nH : H2 x = none)
    (u : Un (frs X.stack) [] H1 H2 s1.heap s2.heap) (hk : HOk X.prog X.w H2 s2.heap) (hB : ∀ b o, b ∉ frs X.stack → ((∃ o0, s1.heap.get? b = some o0) ∨ H2 b ≠ none) → s2.heap.get? b = some o → B.get? b = some o) (st : B.StaysIn h5) (up : s2.heap.UpToSlots h5)
    (ex : ExcAt x cls h5) : Inv X pins σ (upd H2 x (excO x cls)) { s2 with heap := h5 } := by
  have fre : ∀ b ∈ frs X.stack, ∀ o, s2.heap.get? b = some o → ∃ sl, h5.get? b = some { o with slots := sl } := fun b hb o e => by
    obtain ⟨_, o3, e3, nf⟩ := J.stack.mem (b := b) hb
    obtain ⟨sl, e4⟩ := u.slot b o3 e3 (J.stkFree b hb) hb (by simp)
    rw [e] at e4
    cases e4
    exact up b _ e nf
  have kp : ∀ b o, b ∉ frs X.stack → ((∃ o0, s1.heap.get? b = some o0) ∨ H2 b ≠ none) → s2.heap.get? b = some o → h5.get? b = some o := fun b o h1 h3 e => st b o (hB b o h1 h3 e)
  have nx : ∀ b o, s1.heap.get? b = some o → b ≠ x := fun b o e z => by rw [z, n1] at e; cases e
  have trk1 : ∀ b ob, H1 b = some ob → b ≠ x := fun b ob e => by
    obtain ⟨o, q⟩ := obj_at (J.hok b ob e)
    exact nx b o q
  have trk : ∀ b ob, H2 b = some ob → b ∉ frs X.stack := fun b ob e hb => by
    obtain ⟨_, o3, e3, _⟩ := J.stack.mem (b := b) hb
    have := u.free b o3 e3 (J.stkFree b hb) (by simp)
    rw [e] at this
    cases this
  refine J.call' (ch := []) ho ⟨fun b o e n hb hx => kp b o hb (.inl ⟨o, e⟩) (u.keep b o e n hb hx), fun b o e n hb hx => ?_, fun b o e n hx => ?_, fun b o e hx => ?_, fun b xs e => ?_, fun b o v e => ?_, fun b ps e => ?_⟩ ?_ hg (fun b hb => absurd hb (by simp))
  · obtain ⟨sl, e1⟩ := u.slot b o e n hb hx
    obtain ⟨sl2, e2⟩ := fre b hb _ e1
    exact ⟨sl2, e2⟩
  · rw [upd_ne (nx b o e)]; exact u.free b o e n hx
  · obtain ⟨o1, e1⟩ := u.there b o e hx
    by_cases hb : b ∈ frs X.stack
    · obtain ⟨sl, e2⟩ := fre b hb _ e1
      exact ⟨_, e2⟩
    · exact ⟨o1, kp b o1 hb (.inl ⟨o, e⟩) e1⟩
  · rw [upd_ne (trk1 b _ e)]; exact u.tups b xs e
  · rw [upd_ne (trk1 b _ e)]; exact u.frzs b o v e
  · rw [upd_ne (trk1 b _ e)]; exact u.tbls b ps e
  · intro b o e
    by_cases hb : b = x
    · subst hb
      rw [upd_same] at e
      cases e
      exact excO_ok ex
    · rw [upd_ne hb] at e
      refine (hk b o e).stay (fun c v hc q => ?_) (fun c q => ?_) fun c xs q => ?_
      · rcases hc with z | z
        · subst z
          exact kp c v (trk c o e) (.inr (by rw [e]; exact fun z => by cases z)) q
        · exact kp c v (trk c _ z) (.inr (by rw [z]; exact fun z => by cases z)) q
      · rw [upd_ne (ne_of_none q nH)]; exact q
      · rw [upd_ne (ne_of_none q nH)]; exact q
/-- a name of the frame goes -/
theorem inv_unset {X : Cx} {pins : List (Addr × Obj)} {σ : L2.St} {H : Hp} {s : Shared} {h2 : Heap} {i t : Nat} {n : Str} {m : Str → Option Value} {v : Option Value} (I : Inv X pins σ H s) (hN : X.N.Nodup) (hi : X.N[i]? = some n)
    (hl : ∀ (j : Nat) (y : Str) (v : V), X.N[j]? = some y → σ[j]? = some (some v) → Vis X.env.scope y → ∃ u, RelV v u ∧ Look X.env s.heap m y u)
    (hn : h2.Ns X.env.locals (fun y => if y = n then v else m y)) (hs : Heap.SameBut X.env.locals s.heap h2) : Inv X pins (σ.set i none) H { s with heap := h2, toks := t } := by
  have ne : ∀ b o, X.s₀.heap.get? b = some o → b ≠ X.env.locals := fun b o e => Nat.ne_of_lt (Nat.lt_of_lt_of_le (Heap.lt_size e) I.ok.above)
  have hiσ : i < σ.length := by rw [I.len]; exact (List.getElem?_eq_some_iff.mp hi).1
  refine ⟨I.ok, I.os, I.bare, ⟨fun b o e n hb hx => (hs.2 b (ne b o e)).trans (I.base.keep b o e n hb hx), fun b o e n hb hx => ?_, I.base.free, fun b o e hx => ?_, I.base.tups, I.base.frzs, I.base.tbls⟩, ⟨_, hn, fun j y w e1 e2 e3 => ?_⟩, fun y c e => ?_, I.free, I.freeC, fun p hp => ?_, fun b ob e => ?_, by rw [List.length_set]; exact I.len⟩
  · obtain ⟨sl, e1⟩ := I.base.slot b o e n hb hx
    exact ⟨sl, (hs.2 b (ne b o e)).trans e1⟩
  · obtain ⟨o1, e1⟩ := I.base.there b o e hx
    exact ⟨o1, (hs.2 b (ne b o e)).trans e1⟩
  · by_cases hj : j = i
    · subst hj
      rw [List.getElem?_set_self hiσ] at e2
      cases e2
    · rw [List.getElem?_set_ne (Ne.symm hj)] at e2
      obtain ⟨u, r, q⟩ := hl j y w e1 e2 e3
      refine ⟨u, r, ?_⟩
      rcases q with ⟨k, e⟩ | ⟨k, c, e, z⟩
      · by_cases hy : y = n
        · exact absurd (nodup_ix hN e1 (hy ▸ hi)) hj
        · exact .inl ⟨k, by simp [hy, e]⟩
      · exact .inr ⟨k, c, e, z.sameBut hs (I.cne y c e)⟩
  · obtain ⟨w, z⟩ := I.cell y c e
    exact ⟨w, z.sameBut hs (I.cne y c e)⟩
  · obtain ⟨e, q, ne', nf, d⟩ := I.pin p hp
    exact ⟨(hs.2 p.1 ne').trans e, q, ne', nf, d⟩
  · refine (I.hok b ob e).stay (fun c w hc q => (hs.2 c ?_).trans q) (fun _ q => q) fun _ _ q => q
    rintro rfl
    rcases hc with rfl | hc
    · rw [I.free] at e; cases e
    · rw [I.free] at hc; cases hc
def tryEnds (i : Nat) (D : Ends) : Ends := { nx := fun σ H => D.nx (σ.set i none) H, rt := D.rt, bk := fun σ H => D.bk (σ.set i none) H, ct := fun σ H => D.ct (σ.set i none) H }
def tTryAs (K : PySem.W.Frag) (E : XK) (D0 : Addr) (i : Nat) (tb ts : TS) : TS := fun D σ H => tb D σ H ∧ ∀ cls H1, E cls none H1 → ∃ C bm, cls = .ref C ∧ Exc K C bm ∧ (Value.ref C :: bm).contains (.ref D0) = true ∧
  ∀ (x : Addr) (σ1 : L2.St), H1 x = none → σ1.length = σ.length → ts (tryEnds i D) (σ1.set i (some (.ref x))) (upd H1 x (excO x cls))
theorem ps_tryAs {X : Cx} {E : XK} {tb ts : TS} {i : Nat} {n cn : Str} {D0 : Addr} {bmD : List Value} {b0 : Stmt} {suite body : List Stmt} {np pos hpos : Pos} (hstk : X.stack = X.env :: X.outer) (hfr : X.env.frame = some X.env.locals)
    (hNd : X.N.Nodup) (hi : X.N[i]? = some n) (hln : X.env.scope.names.lookup n = some .local) (hg : Gl X cn) (hmD : X.mg cn = some (.ref D0)) (exD : Exc X.K D0 bmD)
    (hb : ∀ xe' pn', Passes (CXR X.prog X.w) (Cx.alt X X.A X.calm pn' xe') E → PSs (Cx.alt X X.A X.calm pn' xe') body tb)
    (hs : ∀ A' pn', PSs (Cx.alt X A' false pn' (fun _ _ => False)) (b0 :: suite) ts) (hdb : (cn == ("__debug__" : Str)) = false := by decide) :
    PS X (.Try body [.ExceptHandler (some (.Name cn np)) (some n) (b0 :: suite) hpos] [] [] pos) (tTryAs X.K E D0 i tb ts) := by
  intro pins s σ H D I hh
  obtain ⟨h1, h2⟩ := hh
  have hcls : (X.env.scope.kind == .class || (X.env.scope.kind == .module && X.env.locals != X.env.globals)) = false := by rw [I.ok.kind]; rfl
  have fr : X.A.frames = some (X.env :: X.outer) := hstk ▸ I.ok.frames
  refine wpAny_Try_except ?_
  generalize hxe : (fun (e : Value) (s₁ : Shared) => wpAny (model X.prog X.w) X.A (noteFrame e X.env) (fun _ s₂ => wpAny (model X.prog X.w) X.A (setFlight e none) (fun _ s₃ => wpAny (model X.prog X.w) X.A (handleBy e X.env [.ExceptHandler (some (.Name cn np)) (some n) (b0 :: suite) hpos]) (SP X pins D) X.xe s₃) X.xe s₂) X.xe s₁) = xe'
  have I' : Inv (Cx.alt X X.A X.calm (X.pn ++ pins) xe') [] σ H s := inv_alt I rfl I.ok.hd (fun p hp => by simpa using hp)
  refine wpAny_mono (hb xe' (X.pn ++ pins) ?pass [] s σ H D I' h1) (fun f s1 q => ?fin) (fun e s1 q => q)
  case fin =>
    have back : ∀ {σ' : L2.St} {H' : Hp}, Inv (Cx.alt X X.A X.calm (X.pn ++ pins) xe') [] σ' H' s1 → Inv X pins σ' H' s1 := fun J => inv_back I.ok J (fun p hp => by simpa using hp)
    cases f with
    | next => obtain ⟨σ', H', J, q⟩ := q; exact wpAny_execs_nil ⟨σ', H', back J, q⟩
    | brk => obtain ⟨σ', H', J, q⟩ := q; exact ⟨σ', H', back J, q⟩
    | cont => obtain ⟨σ', H', J, q⟩ := q; exact ⟨σ', H', back J, q⟩
    | ret u => obtain ⟨v, σ', H', J, r, q⟩ := q; exact ⟨v, σ', H', back J, r, q⟩
  case pass =>
    intro pins1 σ1 H1 s1 e s2 J hC
    obtain ⟨x, cls, B, H2, rfl, ho, hgen, n1, nH, fl, u, hk, hB, hE⟩ := hC
    obtain ⟨C, bm, rfl, exC, hcont, hsuite⟩ := h2 cls H2 hE
    obtain ⟨hp2, g2, d2, tk2, os2⟩ := s2
    show xe' (.ref x) _
    rw [← hxe]
    have hfl : Fly B (X.env :: X.outer) x (.ref C) .none hp2 := hstk ▸ fl
    refine fly_note (B := B) (outer := X.outer) (L := X.env.locals) fr hfr hfl fun h4 held up4 => ?_
    refine fly_land held fun h5 fl5 up5 => ?_
    have up25 : hp2.UpToSlots h5 := up4.trans up5
    obtain ⟨ob, eob, cob, _⟩ := fl5.exc
    have J5 := land_inv J ho hgen n1 nH u hk hB fl5.st up25 fl5.exc
    have J5' : Inv (Cx.alt X (X.A.mark (some (.ref x))) false (X.pn ++ pins) (fun _ _ => False)) pins1 σ1 (upd H2 x (excO x (.ref C))) ⟨h5, g2, d2, tk2, os2⟩ := inv_alt (X := Cx.alt X X.A X.calm (X.pn ++ pins) xe') J5 rfl (fun z => by cases z) (fun p hp => hp)
    obtain ⟨nm, q, N, bs, hdct, sn, sub, ab, col, dd, k0, k1, k2, k3, k5, mN, _, obC⟩ := exC.at J5'.kIn
    obtain ⟨nm', q', N', bs', hdct', sn', sub', ab', col', dd', j0, j1, j2, j3, j5, mN', _, obD⟩ := exD.at J5'.kIn
    have hbase : bmD.contains (.type "BaseException") = true := obD.2.2.hasType (by decide +kernel)
    refine wpAny_handleBy_cons (codeAny_handlers_test (ld_glob J5' hg hmD ?_ hdb)) (by intro q; cases q)
    refine matches_own obC.1 eob cob obD.1 hbase hcont ?_
    refine codeAny_handlers_suite_as ?_
    refine fly_land fl5 fun h6 fl6 up6 => ?_
    have J6 := land_inv J ho hgen n1 nH u hk hB fl6.st (up25.trans up6) fl6.exc
    have J6' : Inv (Cx.alt X (X.A.mark (some (.ref x))) false (X.pn ++ pins) (fun _ _ => False)) pins1 σ1 (upd H2 x (excO x (.ref C))) ⟨h6, g2, d2, tk2, os2⟩ := inv_alt (X := Cx.alt X X.A X.calm (X.pn ++ pins) xe') J6 rfl (fun z => by cases z) (fun p hp => hp)
    refine store_ok (X := Cx.alt X (X.A.mark (some (.ref x))) false (X.pn ++ pins) (fun _ _ => False)) J6' hNd hi (Or.inl hln) (v := .ref x) rfl (fun s7 J7 => ?_) (Or.inr hln)
    have hlen : σ1.length = σ.length := J.len.trans I.len.symm
    refine wpAny_mono (hs (X.A.mark (some (.ref x))) (X.pn ++ pins) pins1 s7 _ _ (tryEnds i D) J7 (hsuite x σ1 nH hlen)) (fun f s8 q => ?_) (fun _ _ z => z.elim)
    have go : ∀ {σ' : L2.St} {H' : Hp}, Inv (Cx.alt X (X.A.mark (some (.ref x))) false (X.pn ++ pins) (fun _ _ => False)) pins1 σ' H' s8 → (∀ s9, Inv X pins (σ'.set i none) H' s9 → SP X pins D f s9) →
        wpAny (model X.prog X.w) X.A (do bindName X.env n .none; unbindBehindTheSuite X.env n hpos) (fun _ s9 => SP X pins D f s9) X.xe s8 := fun {σ' H'} J8 kk => by
      obtain ⟨m, hn, hl⟩ := J8.loc
      exact wpAny_nameGoes_keeps hln hn hcls fun h9 v hn9 hs9 => kk _ (inv_back I.ok (inv_unset J8 hNd hi hl hn9 hs9) fun p hp => List.mem_append_left _ hp)
    cases f with
    | next => obtain ⟨σ', H', J8, q⟩ := q; exact go J8 fun s9 J9 => ⟨_, H', J9, q⟩
    | brk => obtain ⟨σ', H', J8, q⟩ := q; exact go J8 fun s9 J9 => ⟨_, H', J9, q⟩
    | cont => obtain ⟨σ', H', J8, q⟩ := q; exact go J8 fun s9 J9 => ⟨_, H', J9, q⟩
    | ret u => obtain ⟨v, σ', H', J8, r, q⟩ := q; exact go J8 fun s9 J9 => ⟨v, _, H', J9, r, q⟩
/-- .. without a name -/
def tTry (K : PySem.W.Frag) (E : XK) (D0 : Addr) (tb ts : TS) : TS := fun D σ H => tb D σ H ∧ ∀ cls H1, E cls none H1 → ∃ C bm, cls = .ref C ∧ Exc K C bm ∧ (Value.ref C :: bm).contains (.ref D0) = true ∧
  ∀ (x : Addr) (σ1 : L2.St), H1 x = none → σ1.length = σ.length → ts D σ1 (upd H1 x (excO x cls))
theorem ps_try {X : Cx} {E : XK} {tb ts : TS} {cn : Str} {D0 : Addr} {bmD : List Value} {b0 : Stmt} {suite body : List Stmt} {np pos hpos : Pos} (hstk : X.stack = X.env :: X.outer) (hfr : X.env.frame = some X.env.locals) (hg : Gl X cn) (hmD : X.mg cn = some (.ref D0)) (exD : Exc X.K D0 bmD)
    (hb : ∀ xe' pn', Passes (CXR X.prog X.w) (Cx.alt X X.A X.calm pn' xe') E → PSs (Cx.alt X X.A X.calm pn' xe') body tb)
    (hs : ∀ A' pn', PSs (Cx.alt X A' false pn' (fun _ _ => False)) (b0 :: suite) ts) (hdb : (cn == ("__debug__" : Str)) = false := by decide) :
    PS X (.Try body [.ExceptHandler (some (.Name cn np)) none (b0 :: suite) hpos] [] [] pos) (tTry X.K E D0 tb ts) := by
  intro pins s σ H D I hh
  obtain ⟨h1, h2⟩ := hh
  have fr : X.A.frames = some (X.env :: X.outer) := hstk ▸ I.ok.frames
  refine wpAny_Try_except ?_
  generalize hxe : (fun (e : Value) (s₁ : Shared) => wpAny (model X.prog X.w) X.A (noteFrame e X.env) (fun _ s₂ => wpAny (model X.prog X.w) X.A (setFlight e none) (fun _ s₃ => wpAny (model X.prog X.w) X.A (handleBy e X.env [.ExceptHandler (some (.Name cn np)) none (b0 :: suite) hpos]) (SP X pins D) X.xe s₃) X.xe s₂) X.xe s₁) = xe'
  have I' : Inv (Cx.alt X X.A X.calm (X.pn ++ pins) xe') [] σ H s := inv_alt I rfl I.ok.hd (fun p hp => by simpa using hp)
  refine wpAny_mono (hb xe' (X.pn ++ pins) ?pass [] s σ H D I' h1) (fun f s1 q => ?fin) (fun e s1 q => q)
  case fin =>
    have back : ∀ {σ' : L2.St} {H' : Hp}, Inv (Cx.alt X X.A X.calm (X.pn ++ pins) xe') [] σ' H' s1 → Inv X pins σ' H' s1 := fun J => inv_back I.ok J (fun p hp => by simpa using hp)
    cases f with
    | next => obtain ⟨σ', H', J, q⟩ := q; exact wpAny_execs_nil ⟨σ', H', back J, q⟩
    | brk => obtain ⟨σ', H', J, q⟩ := q; exact ⟨σ', H', back J, q⟩
    | cont => obtain ⟨σ', H', J, q⟩ := q; exact ⟨σ', H', back J, q⟩
    | ret u => obtain ⟨v, σ', H', J, r, q⟩ := q; exact ⟨v, σ', H', back J, r, q⟩
  case pass =>
    intro pins1 σ1 H1 s1 e s2 J hC
    obtain ⟨x, cls, B, H2, rfl, ho, hgen, n1, nH, fl, u, hk, hB, hE⟩ := hC
    obtain ⟨C, bm, rfl, exC, hcont, hsuite⟩ := h2 cls H2 hE
    obtain ⟨hp2, g2, d2, tk2, os2⟩ := s2
    show xe' (.ref x) _
    rw [← hxe]
    have hfl : Fly B (X.env :: X.outer) x (.ref C) .none hp2 := hstk ▸ fl
    refine fly_note (B := B) (outer := X.outer) (L := X.env.locals) fr hfr hfl fun h4 held up4 => ?_
    refine fly_land held fun h5 fl5 up5 => ?_
    have up25 : hp2.UpToSlots h5 := up4.trans up5
    obtain ⟨ob, eob, cob, _⟩ := fl5.exc
    have J5 := land_inv J ho hgen n1 nH u hk hB fl5.st up25 fl5.exc
    have J5' : Inv (Cx.alt X (X.A.mark (some (.ref x))) false (X.pn ++ pins) (fun _ _ => False)) pins1 σ1 (upd H2 x (excO x (.ref C))) ⟨h5, g2, d2, tk2, os2⟩ := inv_alt (X := Cx.alt X X.A X.calm (X.pn ++ pins) xe') J5 rfl (fun z => by cases z) (fun p hp => hp)
    obtain ⟨nm, q, N, bs, hdct, sn, sub, ab, col, dd, k0, k1, k2, k3, k5, mN, _, obC⟩ := exC.at J5'.kIn
    obtain ⟨nm', q', N', bs', hdct', sn', sub', ab', col', dd', j0, j1, j2, j3, j5, mN', _, obD⟩ := exD.at J5'.kIn
    have hbase : bmD.contains (.type "BaseException") = true := obD.2.2.hasType (by decide +kernel)
    refine wpAny_handleBy_cons (codeAny_handlers_test (ld_glob J5' hg hmD ?_ hdb)) (by intro q; cases q)
    refine matches_own obC.1 eob cob obD.1 hbase hcont ?_
    refine codeAny_handlers_suite ?_
    refine fly_land fl5 fun h6 fl6 up6 => ?_
    have J6 := land_inv J ho hgen n1 nH u hk hB fl6.st (up25.trans up6) fl6.exc
    have J6' : Inv (Cx.alt X (X.A.mark (some (.ref x))) false (X.pn ++ pins) (fun _ _ => False)) pins1 σ1 (upd H2 x (excO x (.ref C))) ⟨h6, g2, d2, tk2, os2⟩ := inv_alt (X := Cx.alt X X.A X.calm (X.pn ++ pins) xe') J6 rfl (fun z => by cases z) (fun p hp => hp)
    have hlen : σ1.length = σ.length := J.len.trans I.len.symm
    refine wpAny_mono (hs (X.A.mark (some (.ref x))) (X.pn ++ pins) pins1 _ _ _ D J6' (hsuite x σ1 nH hlen)) (fun f s8 q => ?_) (fun _ _ z => z.elim)
    have back : ∀ {σ' : L2.St} {H' : Hp}, Inv (Cx.alt X (X.A.mark (some (.ref x))) false (X.pn ++ pins) (fun _ _ => False)) pins1 σ' H' s8 → Inv X pins σ' H' s8 := fun J8 => inv_back I.ok J8 fun p hp => List.mem_append_left _ hp
    show SP X pins D f s8
    cases f with
    | next => obtain ⟨σ', H', J8, q⟩ := q; exact ⟨σ', H', back J8, q⟩
    | brk => obtain ⟨σ', H', J8, q⟩ := q; exact ⟨σ', H', back J8, q⟩
    | cont => obtain ⟨σ', H', J8, q⟩ := q; exact ⟨σ', H', back J8, q⟩
    | ret u => obtain ⟨v, σ', H', J8, r, q⟩ := q; exact ⟨v, σ', H', back J8, r, q⟩
/-- the class of a caught exception, asked as isinstance asks -/
theorem exc_check {M : Model} {A : Around} {E : Value → Shared → Prop} {s : Shared} {K : PySem.W.Frag} {x C : Addr} {ob : Obj} {nameV : Value} {Q : Unit → Shared → Prop} (X : K.In s.heap) (I : PySem.W.InstAt s.heap x ob C none) (hB : PySem.W.mroIn K C (.type "BaseException") = some true) (hq : Q () s) :
    wpAny M A (checkBuiltinCall "BaseException.__getattribute__" ⟨[.ref x, nameV], []⟩) Q E s := by
  have hk : builtinKind "BaseException.__getattribute__" = some .slot := by decide +kernel
  have hsplit : splitId "BaseException.__getattribute__" = some ("BaseException", "__getattribute__") := by decide +kernel
  have ha := F.args_bexc_ga (.ref x) nameV
  have L0 := I.type (M := M)
  have L1 := PySem.W.looks_mroIn (M := M) X hB
  simp only [checkBuiltinCall, hk, hsplit]
  refine wpAny_bind ?_
  unfold isInstance
  refine wpAny_bind (L0.at ?_)
  refine L1.at ?_
  obtain ⟨hh, g, d, t, os⟩ := s
  repeat (any_goals (first | assumption | wp_step))
theorem exc_class {prog : Program} {w : World} {A : Around} {E : Value → Shared → Prop} {Q : Option Value → Shared → Prop} {s : Shared} {K : PySem.W.Frag} {x C : Addr} {ob : Obj} (X : K.In s.heap) (I : PySem.W.InstAt s.heap x ob C none)
    (hga : PySem.W.findIn K (.ref C) "__getattribute__" = some (some (.builtin "BaseException.__getattribute__"))) (hgn : PySem.W.findIn K (.ref C) "__getattr__" = some none)
    (hf : PySem.W.findObj K C none "__class__" = some (.bind (.builtin "getset_descriptor.__get__") (.builtin "object.__class__"))) (hm : PySem.W.mroIn K C (.type "object") = some true) (hB : PySem.W.mroIn K C (.type "BaseException") = some true)
    (kq : Q (some (.ref C)) { s with toks := s.toks + 1 }) : wpAny (model prog w) A (getAttr? (.ref x) "__class__") Q E s := by
  obtain ⟨hh, g, d, t, os⟩ := s
  have L0 := I.type (M := model prog w)
  have L1 := PySem.W.looks_findIn (M := model prog w) X hga
  have L2 := PySem.W.looks_findIn (M := model prog w) X hgn
  have L3 := PySem.W.looks_find (M := model prog w) X I hf
  have f3 := F.excAttr_ValueError.ga.bind (.ref x)
  unfold getAttr? getAttrBy? getAttrBy
  refine wpAny_bind (wpAny_mkText (wpAny_bind (wpAny_attempt (wpAny_holding (wpAny_bind (L0.at (wpAny_bind (L1.at ?_))))))))
  have hx2 : (Value.builtin "BaseException.__getattribute__" == Value.builtin "object.__getattribute__") = false := by decide +kernel
  have hx1 : (onTheHeap (Value.ref C) && Value.builtin "BaseException.__getattribute__" == Value.builtin "object.__getattribute__") = false := by rw [hx2]; rfl
  dsimp only
  rw [hx1]
  show wpAny _ _ (getAttrByItsOwn _ _ _ _ _ _) _ _ _
  unfold getAttrByItsOwn hookBefore
  refine wpAny_bind ?_
  show wpAny _ _ (typeLookup _ _) _ _ _
  refine L2.at ?_
  refine wpAny_bind (wpAny_attempt (wpAny_holding ?_))
  have hx0 : (false && onTheHeap (Value.builtin "BaseException.__getattribute__")) = false := rfl
  repeat (any_goals (first | assumption | wp_step))
  show codeAny _ _ (.call (.builtin "BaseException.__getattribute__") ⟨[.ref x, .str "__class__" t], []⟩) _ _
  refine codeAny_call_builtin F.excAttr_ValueError.ga.plain F.entry_bexc_ga (exc_check (s := ⟨hh, g, d, t + 1, os⟩) (ob := ob) X I hB ?_)
  unfold Builtin.«object.__getattribute__»
  repeat (first | with_reducible refine wpAny_bind (L0.at ?_) | with_reducible refine wpAny_bind (L3.at ?_) | with_reducible refine L0.at ?_ | with_reducible refine L3.at ?_ | wp_step)
  refine PySem.W.class_get (s := ⟨hh, g, d, t + 1, os⟩) (ox := ob) (od := none) X I hm ?_
  repeat (any_goals (first | assumption | wp_step))
/-- what isinstance asks of an own class of exceptions -/
structure ExcCls (K : PySem.W.Frag) (C : Addr) : Prop where
  ga : PySem.W.findIn K (.ref C) "__getattribute__" = some (some (.builtin "BaseException.__getattribute__"))
  gn : PySem.W.findIn K (.ref C) "__getattr__" = some none
  ic : (PySem.W.clsIn K C).isSome = true
  y1 : PySem.W.findIn K (.ref C) "__class__" = some (some (.builtin "object.__class__"))
  y2 : PySem.W.specialIn K (.builtin "object.__class__") "__get__" = some (some (.builtin "getset_descriptor.__get__"))
  y3 : PySem.W.takesIn K (.builtin "object.__class__") = some true
  y4 : PySem.W.mroIn K C (.type "object") = some true
  yB : PySem.W.mroIn K C (.type "BaseException") = some true
theorem kitx_exc {K : PySem.W.Frag} {x C : Addr} (ec : ExcCls K C) : PySem.W.KitX K (.ref x) (.ref C) (ExcAt x (.ref C)) where
  ty := fun M h _ ⟨ob, e, c, d, vs, hd⟩ => by
    have I : PySem.W.InstAt h x ob C none := ⟨e, c, by unfold PySem.W.notCls; rw [hd], by rw [d]; trivial⟩
    exact I.type
  it := fun M h X _ => by
    obtain ⟨cdD, hcD⟩ := Option.isSome_iff_exists.mp ec.ic
    unfold PySem.W.clsIn at hcD
    split at hcD
    · rename_i ho
      intro A' Q' E' s' kp q
      unfold isType loadHead
      exact wpAny_bind (wpAny_loadPart (kp _ _ (X _ _ ho)) (wpAny_pure q))
    · cases hcD
  ne := fun h tp dd its n sl X htp => by
    obtain ⟨cdD, hcD⟩ := Option.isSome_iff_exists.mp ec.ic
    refine Bool.eq_false_iff.mpr fun q => ?_
    obtain rfl : C = tp := Value.ref.inj (beq_iff_eq.mp q)
    unfold PySem.W.clsIn at hcD
    split at hcD
    · rename_i ho
      cases (X _ _ ho).symm.trans htp
    · cases hcD
  ca := fun {prog w A E Q s} X ⟨ob, e, c, d, vs, hd⟩ kq => by
    have I : PySem.W.InstAt s.heap x ob C none := ⟨e, c, by unfold PySem.W.notCls; rw [hd], by rw [d]; trivial⟩
    have hf : PySem.W.findObj K C none "__class__" = some (.bind (.builtin "getset_descriptor.__get__") (.builtin "object.__class__")) := by
      obtain ⟨cdD, hcD⟩ := Option.isSome_iff_exists.mp ec.ic
      unfold PySem.W.findObj
      rw [hcD, Option.bind_some, ec.y1, Option.bind_some]
      simp [ec.y2, ec.y3]
    exact exc_class X I ec.ga ec.gn hf ec.y4 ec.yB kq
/-- isinstance of a caught exception -/
theorem call_isexc {X : Cx} : CallR X (.builtin "isinstance") (fun xs H Q => ∃ x C c cv b, xs = [.ref x, c] ∧ H x = some (excO x (.ref C)) ∧ ExcCls X.K C ∧ clsV c = some cv ∧ PySem.W.kitOne X.K (.ref C) cv = some b ∧ Q (.bl b) H) := by
  intro pins s σ H xs us Q I r h
  obtain ⟨x, C, c, cv, b, rfl, hx, ec, hc, e, q⟩ := h
  obtain ⟨u, v, rfl, ru, rv⟩ := r.two
  have ev : v = cv := by
    cases c with
    | ty n => cases hc; exact rv
    | ref a => cases hc; exact rv
    | _ => cases hc
  subst ev
  obtain rfl : u = Value.ref x := ru
  obtain ⟨at1, _⟩ := (show ObjOk X.prog X.w H s.heap x (excO x (.ref C)) from I.hok x _ hx)
  exact PySem.W.kia_one (kitx_exc ec) I.kIn at1 e (fun z => nomatch z) fun tk => ⟨.bl b, H, I.tok _, rfl, q⟩
theorem call_isexcK {X : Cx} {K' : PySem.W.Frag} (h : X.K = K') : CallR X (.builtin "isinstance") (fun xs H Q => ∃ x C c cv b, xs = [.ref x, c] ∧ H x = some (excO x (.ref C)) ∧ ExcCls K' C ∧ clsV c = some cv ∧ PySem.W.kitOne K' (.ref C) cv = some b ∧ Q (.bl b) H) := h ▸ call_isexc
theorem len4 {α : Type} {l : List α} (h : l.length = 4) : ∃ a b c d, l = [a, b, c, d] := by
  match l, h with
  | [a, b, c, d], _ => exact ⟨a, b, c, d, rfl⟩
theorem len5 {α : Type} {l : List α} (h : l.length = 5) : ∃ a b c d e, l = [a, b, c, d, e] := by
  match l, h with
  | [a, b, c, d, e], _ => exact ⟨a, b, c, d, e, rfl⟩
/-! ### the body of a def that may raise -/
theorem Fun.okR {P : Program} {w : World} {K : PySem.W.Frag} {mg : Str → Option Value} {base : Heap} {x qual : Str} {st : Stmt} {f : Addr} {fd : FuncData} {N ps : List Str} {k : Nat} {sp : Sp} (F : Fun K x qual st f fd) (S : FnScope N ps (defScope st)) (len : ∀ vs H Q E, sp vs H Q E → vs.length = ps.length)
    (hbody : ∀ (cdv : Value) (A : Around) (outer : List Env) (s : Shared) (H : Hp) (vs : List V) (Q : VK) (E : XK), Room k (A.deeper (envOfC qual (defScope st) s.heap.objs.size f cdv)) → sp vs H Q E →
      ∃ t, PSs (cxOf (CXR P w) P w K mg base N qual (defScope st) f cdv A outer s H E) (defBody st) t ∧ t { nx := fun _ H' => Q .non H', rt := Q } (start N vs) H) : FnOk P w K mg base (CXR P w) (k + 1) f fd ps sp := by
  obtain ⟨oc, od, kV, doc, pm, an, cdv, ct, osl, rfl, lk, hcd⟩ := F.ex
  exact fn_of lk hcd S len fun A outer s H vs Q E hr hsp => hbody cdv A outer s H vs Q E hr hsp
/-- a def of the text that may raise, as its callers see it -/
structure DefR (P : Program) (w : World) (K : PySem.W.Frag) (mg : Str → Option Value) (base : Heap) (x : Str) (ps : List Str) (k : Nat) (sp : Sp) : Prop where
  ex : ∃ (f : Addr) (fd : FuncData), mg x = some (.ref f) ∧ PySem.W.keepIn K (.ref f) = true ∧ Binds K fd ps [] ∧ FnOk P w K mg base (CXR P w) k f fd ps sp
theorem pe_callR {X : Cx} {x : Str} {ps : List Str} {k : Nat} {sp : Sp} {E : XK} {p pos : Pos} {e : Expr} {es : List Expr} {t : TA} (D : DefR X.prog X.w X.K X.mg X.base x ps k sp) (hr : Room k X.A) (hx : Passes (CXR X.prog X.w) X E) (hg : Gl X x) (ha : PA X (e :: es) t)
    (hdb : (x == ("__debug__" : Str)) = false := by decide) (he : starEach (e :: es) X.env = (false, eval e X.env) :: starEach es X.env := by rfl) (hpl : (backTo pos (starEach es X.env)).any (·.1) = false := by rfl) :
    PE X (.Call (.Name x p) (e :: es) [] pos) (tCall sp [] E t) := by
  obtain ⟨f, fd, h1, h2, h3, h4⟩ := D.ex
  exact pe_call h4 hr hg h1 h2 h3 .nil hx ha hdb he hpl
/-- such a def always raises: an exception of the class at C, all as it was -/
def spRaises (C : Addr) (ok : List V → Hp → Prop) : Sp := fun vs H _ E => ok vs H ∧ E (.ref C) none H
end Cut
set_option Elab.async false
set_option linter.all false
set_option maxRecDepth 100000
set_option maxHeartbeats 4000000
namespace L2
open PySem PySem.Spec PyProof.Rows
/-! ### all(a list of bools) -/
theorem bools_get : ∀ {bs : List Bool} {us : List Value}, Vals (bs.map V.bl) us → us = bs.map Value.bool
  | [], _, r => by rw [List.map_nil] at r; cases r; rfl
  | b :: bs, _, r => by
    rw [List.map_cons] at r
    cases r with
    | cons h t =>
      cases h
      rw [bools_get t]
      rfl
theorem call_all {X : Cx} (hc : X.calm = true) : CallR X (.builtin "all") (fun vs H Q => ∃ (l : Addr) (bs : List Bool), vs = [.ref l] ∧ SqL X.K H l (bs.map V.bl) ∧ Q (.bl (bs.all id)) H) := by
  intro pins s σ H xs us Q I r h
  obtain ⟨l, bs, rfl, hq, q⟩ := h
  obtain ⟨u, rfl, ru⟩ := r.one
  obtain rfl : u = Value.ref l := ru
  obtain ⟨its, rv, pl, _⟩ := I.list hq
  have hits := bools_get rv
  subst hits
  have hlt : l < s.heap.objs.size := by obtain ⟨_, e, _⟩ := pl.isList; exact Heap.lt_size e
  refine call_all_walk (wpAny_pyIter_list pl.isList ?_)
  refine ⟨s.heap.objs.size, _, _, _, _, _, fun i => bs.getD i true, rfl, Walks.list (A := X.A.in1) (I.ok.hd hc) s.heap.objs.size l (Nat.ne_of_lt hlt) (bs.map Value.bool).toArray, ⟨⟨_, Heap.get?_push_size _ rfl, rfl, rfl⟩, pl.isList.push _⟩, fun i v s' Q' E' hP hq' => ?_, fun h' tk hk => ?_⟩
  · have hP' : (bs.map Value.bool)[i]? = some v := by simpa using hP
    rw [List.getElem?_map] at hP'
    obtain ⟨b, hb, rfl⟩ := Option.map_eq_some_iff.mp hP'
    have e : bs.getD i true = b := by rw [List.getD_eq_getElem?_getD, hb]; rfl
    have hq2 : Q' (bs.getD i true) s' := hq'
    rw [e] at hq2
    exact wpAny_truthy_bool hq2
  · have e : ((List.range (bs.map Value.bool).toArray.size).all fun i => bs.getD i true) = bs.all id := by
      rw [List.size_toArray, List.length_map]
      rw [Bool.eq_iff_iff, List.all_eq_true, List.all_eq_true]
      constructor
      · intro h b hb
        obtain ⟨i, hi, e⟩ := List.mem_iff_getElem.mp hb
        have := h i (List.mem_range.mpr hi)
        rw [List.getD_eq_getElem?_getD, List.getElem?_eq_getElem hi] at this
        rw [← e]
        exact this
      · intro h i hi
        have hi' := List.mem_range.mp hi
        rw [List.getD_eq_getElem?_getD, List.getElem?_eq_getElem hi']
        exact h _ (List.getElem_mem hi')
    rw [e]
    refine ⟨.bl _, H, I.kept (t' := tk) (fun b o e => hk b o (fun hm => ?_) (Heap.get?_push_of_some _ e)), rfl, q⟩
    exact Nat.ne_of_lt (Heap.lt_size e) (List.mem_singleton.mp hm)
/-! ### comprehensions whose elements lay objects -/
/-- the heap without one address -/
def hide (l : Addr) (H : Hp) : Hp := fun b => if b = l then none else H b
theorem hide_ne {l b : Addr} {H : Hp} (h : b ≠ l) : hide l H b = H b := if_neg h
theorem hide_same {l : Addr} {H : Hp} : Same (hide l H) H := fun b o e => by
  by_cases h : b = l
  · rw [show hide l H b = none from if_pos h] at e; cases e
  · rw [hide_ne h] at e; exact e
theorem hide_upd {l : Addr} {H : Hp} {o : HO} : hide l (upd H l o) = hide l H := funext fun b => by
  by_cases h : b = l
  · rw [show hide l (upd H l o) b = none from if_pos h, show hide l H b = none from if_pos h]
  · rw [hide_ne h, hide_ne h, upd_ne h]
theorem hide_mono {l : Addr} {H H' : Hp} (s : Same H H') : Same (hide l H) (hide l H') := fun b o e => by
  by_cases h : b = l
  · rw [show hide l H b = none from if_pos h] at e; cases e
  · rw [hide_ne h] at e ⊢; exact s _ _ e
theorem hide_old {l : Addr} {H H' : Hp} (s : Same H H') (h : H l = none) : Same H (hide l H') := fun b o e => by
  rw [hide_ne (ne_of_none e h)]
  exact s _ _ e
section
variable {js : List Nat} {te : TE} {σ : St} {H1 : Hp} {R : Addr → Hp → Prop} (P : Nat → V → Hp → Prop) (hP : ∀ i v H H', P i v H → Same H H' → P i v H')
include hP
theorem comp_any {J : It} {n : Nat} (hn : n ≤ 2000) (stop : ∀ H, Same H1 H → J.stop n H) (go : ∀ i H, i < n → Same H1 H → J.go i H) (X : Nat → V → Prop) (yld : ∀ i H x H', i < n → Same H1 H → J.yld i H x H' → H' = H ∧ X i x)
    (he : ∀ (i : Nat) (x : V) (H2 : Hp) (Q' : VK), i < n → X i x → Same H1 H2 → (∀ (y : V) (H3 : Hp), Same H2 H3 → (∀ (l : Addr), (∃ o, H2 l = some o) → H1 l = none → P i y (hide l H3)) → Q' y H3) → te (some x :: capsOf js σ) H2 Q')
    (hq : ∀ (l : Addr) (ys : List V) (H' : Hp), H1 l = none → Same H1 H' → H' l = some (.lst ys) → ys.length = n → (∀ (i : Nat) (y : V), ys[i]? = some y → P i y (hide l H')) → R l H') :
    ∀ l, H1 l = none → ∃ W : Nat → Nat → List V → Hp → Prop, (∃ m, W 0 m [] (upd H1 l (.lst []))) ∧
      ∀ i m ys H, W i m ys H → H l = some (.lst ys) ∧ ((J.stop i H ∧ R l H) ∨ (J.go i H ∧ ∀ x H', J.yld i H x H' → tAll (some x :: capsOf js σ) H' fun b H2 =>
        if b = true then te (some x :: capsOf js σ) H2 fun y H3 => H3 l = some (.lst ys) ∧ ys.length < sizeLine ∧ ∃ m', m' < m ∧ W (i + 1) m' (ys ++ [y]) (upd H3 l (.lst (ys ++ [y]))) else ∃ m', m' < m ∧ W (i + 1) m' ys H2)) := by
  intro l hl
  have s2 : (2000 : Nat) < sizeLine := by decide
  have sm : ∀ {H : Hp} {o : HO}, Same H1 H → Same H1 (upd H l o) := fun {H o} s b u e => by rw [upd_ne (ne_of_none e hl)]; exact s _ _ e
  refine ⟨fun i m ys H => m = n - i ∧ i ≤ n ∧ ys.length = i ∧ Same H1 H ∧ H l = some (.lst ys) ∧ ∀ (j : Nat) (y : V), ys[j]? = some y → P j y (hide l H), ⟨n, rfl, Nat.zero_le _, rfl, sm (fun _ _ e => e), upd_same, fun j y e => by simp at e⟩, ?_⟩
  rintro i m ys H ⟨rfl, hi, hy, s, g, hp⟩
  refine ⟨g, ?_⟩
  by_cases hlt : i < n
  · refine .inr ⟨go i H hlt s, fun x H' y => ?_⟩
    obtain ⟨e, hx⟩ := yld i H x H' hlt s y
    subst e
    unfold tAll
    dsimp only
    rw [if_pos rfl]
    refine he i x H' _ hlt hx s fun y H3 s3 p3 => ?_
    refine ⟨s3 _ _ g, by omega, n - (i + 1), by omega, rfl, hlt, by rw [List.length_append, hy]; rfl, sm (s.trans s3), upd_same, fun j z e => ?_⟩
    rw [hide_upd]
    by_cases hj : j < ys.length
    · rw [List.getElem?_append_left hj] at e
      exact hP _ _ _ _ (hp j z e) (hide_mono s3)
    · rw [List.getElem?_append_right (by omega)] at e
      cases e3 : j - ys.length with
      | zero =>
        rw [e3] at e
        cases e
        have : j = i := by omega
        rw [this]
        exact p3 l ⟨_, g⟩ hl
      | succ k => rw [e3] at e; simp at e
  · have e : i = n := by omega
    subst e
    exact .inl ⟨stop H s, hq l ys H hl s g hy hp⟩
theorem comp_anyL {K : PySem.W.Frag} {a : Addr} {xs : List V} (hx : SqL K H1 a xs) (hn : xs.length ≤ 2000)
    (he : ∀ (i : Nat) (x : V) (H2 : Hp) (Q' : VK), xs[i]? = some x → Same H1 H2 → (∀ (y : V) (H3 : Hp), Same H2 H3 → (∀ (l : Addr), (∃ o, H2 l = some o) → H1 l = none → P i y (hide l H3)) → Q' y H3) → te (some x :: capsOf js σ) H2 Q')
    (hq : ∀ (l : Addr) (ys : List V) (H' : Hp), H1 l = none → Same H1 H' → H' l = some (.lst ys) → ys.length = xs.length → (∀ (i : Nat) (y : V), ys[i]? = some y → P i y (hide l H')) → R l H') :
    ∀ l, H1 l = none → ∃ W : Nat → Nat → List V → Hp → Prop, (∃ m, W 0 m [] (upd H1 l (.lst []))) ∧
      ∀ i m ys H, W i m ys H → H l = some (.lst ys) ∧ (((Itl K a).stop i H ∧ R l H) ∨ ((Itl K a).go i H ∧ ∀ x H', (Itl K a).yld i H x H' → tAll (some x :: capsOf js σ) H' fun b H2 =>
        if b = true then te (some x :: capsOf js σ) H2 fun y H3 => H3 l = some (.lst ys) ∧ ys.length < sizeLine ∧ ∃ m', m' < m ∧ W (i + 1) m' (ys ++ [y]) (upd H3 l (.lst (ys ++ [y]))) else ∃ m', m' < m ∧ W (i + 1) m' ys H2)) :=
  comp_any P hP (J := Itl K a) hn (fun H s => ⟨xs, s.seq hx, Nat.le_refl _⟩) (fun i H hi s => ⟨xs, xs[i], s.seq hx, List.getElem?_eq_getElem hi⟩) (fun i x => xs[i]? = some x) (fun i H x H' hi s y => ⟨y.1, y.2 xs (s.seq hx)⟩) (fun i x H2 Q' _ hx' s k => he i x H2 Q' hx' s k) hq
theorem comp_anyT {K : PySem.W.Frag} {a : Addr} {xs : List V} (hx : SqT K H1 a xs) (hn : xs.length ≤ 2000)
    (he : ∀ (i : Nat) (x : V) (H2 : Hp) (Q' : VK), xs[i]? = some x → Same H1 H2 → (∀ (y : V) (H3 : Hp), Same H2 H3 → (∀ (l : Addr), (∃ o, H2 l = some o) → H1 l = none → P i y (hide l H3)) → Q' y H3) → te (some x :: capsOf js σ) H2 Q')
    (hq : ∀ (l : Addr) (ys : List V) (H' : Hp), H1 l = none → Same H1 H' → H' l = some (.lst ys) → ys.length = xs.length → (∀ (i : Nat) (y : V), ys[i]? = some y → P i y (hide l H')) → R l H') :
    ∀ l, H1 l = none → ∃ W : Nat → Nat → List V → Hp → Prop, (∃ m, W 0 m [] (upd H1 l (.lst []))) ∧
      ∀ i m ys H, W i m ys H → H l = some (.lst ys) ∧ (((Itt K a).stop i H ∧ R l H) ∨ ((Itt K a).go i H ∧ ∀ x H', (Itt K a).yld i H x H' → tAll (some x :: capsOf js σ) H' fun b H2 =>
        if b = true then te (some x :: capsOf js σ) H2 fun y H3 => H3 l = some (.lst ys) ∧ ys.length < sizeLine ∧ ∃ m', m' < m ∧ W (i + 1) m' (ys ++ [y]) (upd H3 l (.lst (ys ++ [y]))) else ∃ m', m' < m ∧ W (i + 1) m' ys H2)) :=
  comp_any P hP (J := Itt K a) hn (fun H s => ⟨xs, Cut.Same.tup s hx, Nat.le_refl _⟩) (fun i H hi s => ⟨xs, xs[i], Cut.Same.tup s hx, List.getElem?_eq_getElem hi⟩) (fun i x => xs[i]? = some x) (fun i H x H' hi s y => ⟨y.1, y.2 xs (Cut.Same.tup s hx)⟩) (fun i x H2 Q' _ hx' s k => he i x H2 Q' hx' s k) hq
theorem comp_anyR {lo : Int} {n : Nat} (hn : n ≤ 2000)
    (he : ∀ (i : Nat) (H2 : Hp) (Q' : VK), i < n → Same H1 H2 → (∀ (y : V) (H3 : Hp), Same H2 H3 → (∀ (l : Addr), (∃ o, H2 l = some o) → H1 l = none → P i y (hide l H3)) → Q' y H3) → te (some (.int (lo + i)) :: capsOf js σ) H2 Q')
    (hq : ∀ (l : Addr) (ys : List V) (H' : Hp), H1 l = none → Same H1 H' → H' l = some (.lst ys) → ys.length = n → (∀ (i : Nat) (y : V), ys[i]? = some y → P i y (hide l H')) → R l H') :
    ∀ l, H1 l = none → ∃ W : Nat → Nat → List V → Hp → Prop, (∃ m, W 0 m [] (upd H1 l (.lst []))) ∧
      ∀ i m ys H, W i m ys H → H l = some (.lst ys) ∧ (((Itr lo n).stop i H ∧ R l H) ∨ ((Itr lo n).go i H ∧ ∀ x H', (Itr lo n).yld i H x H' → tAll (some x :: capsOf js σ) H' fun b H2 =>
        if b = true then te (some x :: capsOf js σ) H2 fun y H3 => H3 l = some (.lst ys) ∧ ys.length < sizeLine ∧ ∃ m', m' < m ∧ W (i + 1) m' (ys ++ [y]) (upd H3 l (.lst (ys ++ [y]))) else ∃ m', m' < m ∧ W (i + 1) m' ys H2)) :=
  comp_any P hP (J := Itr lo n) hn (fun H s => Nat.le_refl _) (fun i H hi s => hi) (fun i x => x = .int (lo + i)) (fun i H x H' hi s y => ⟨y.1, y.2⟩) (fun i x H2 Q' hi hx' s k => by subst hx'; exact he i H2 Q' hi s k) hq
end
end L2
set_option Elab.async false
set_option linter.all false
set_option maxRecDepth 100000
set_option maxHeartbeats 4000000
namespace Cut
open PySem PySem.StrLaws PySem.Builtin PySem.Builtin.Str
/-! ### texts glued and split again -/
abbrev chs (x : Str) : List Nat := x.cps.toList
theorem chs_len (x : Str) : (chs x).length = x.length := by simp [Str.length]
theorem chs_app (x y : Str) : chs (x ++ y) = chs x ++ chs y := by rw [chs, Str.cps_append, Array.toList_append]
theorem chs_ext {x y : Str} (h : chs x = chs y) : x = y := Str.ext' (Array.toList_inj.mp h)
theorem at_list {x y : Str} {k : Nat} (h : At x y x.length k) : ((chs x).drop k).take y.length = chs y := by
  have e : x.cps.extract k (k + y.length) = y.cps := eq_of_beq h.2
  have e2 := congrArg Array.toList e
  rw [Array.toList_extract] at e2
  show _ = y.cps.toList
  rw [← e2, List.extract_eq_take_drop, Nat.add_sub_cancel_left]
theorem at_head {x y : Str} {k c : Nat} (h : At x y x.length k) (hc : (chs y)[0]? = some c) : (chs x)[k]? = some c := by
  rw [← at_list h] at hc
  have hy : 0 < y.length := by
    rcases Nat.eq_zero_or_pos y.length with z | z
    · rw [z] at hc; simp at hc
    · exact z
  rw [List.getElem?_take_of_lt hy, List.getElem?_drop] at hc
  exact hc
theorem at_of {x y : Str} {a b : List Nat} (e : chs x = a ++ chs y ++ b) : At x y x.length a.length := by
  refine ⟨?_, ?_⟩
  · rw [← chs_len x, e, List.length_append, List.length_append, chs_len]; omega
  · unfold subAt
    have : x.cps.extract a.length (a.length + y.length) = y.cps := by
      apply Array.toList_inj.mp
      rw [Array.toList_extract, show x.cps.toList = a ++ chs y ++ b from e]
      rw [List.extract_eq_take_drop, List.append_assoc, List.drop_append_of_le_length (Nat.le_refl _), List.drop_length, List.nil_append, Nat.add_sub_cancel_left, ← chs_len y, List.take_append_of_le_length (Nat.le_refl _), List.take_length]
    rw [this]
    exact beq_self_eq_true _
theorem join_cons2 (sep p q : Str) (r : List Str) : chs (Str.join sep (p :: q :: r)) = chs p ++ chs sep ++ chs (Str.join sep (q :: r)) := by
  show chs (p ++ sep ++ Str.join sep (q :: r)) = _
  rw [chs_app, chs_app]
theorem sub_drop (x : Str) (a : Nat) : chs (strSub x a x.length) = (chs x).drop a := by
  show (x.cps.extract a x.length).toList = _
  rw [Array.toList_extract, List.extract_eq_take_drop]
  refine List.take_of_length_le ?_
  rw [List.length_drop]
  exact Nat.le_of_eq (by rw [show (x.cps.toList).length = x.length from chs_len x])
theorem sub_take (x : Str) (a b : Nat) : chs (strSub x a b) = ((chs x).drop a).take (b - a) := by
  show (x.cps.extract a b).toList = _
  rw [Array.toList_extract, List.extract_eq_take_drop]
theorem parts_join {x sep : Str} {c : Nat} (hc : (chs sep)[0]? = some c) : ∀ (ps : List Str) (cuts : List Nat) (a f : Nat), ps ≠ [] → (∀ p ∈ ps, c ∉ chs p) → (chs x).drop a = chs (Str.join sep ps) → a ≤ x.length →
    ChainG x sep x.length a cuts f → (∀ k, f ≤ k → ¬ At x sep x.length k) → partsFrom x sep.length a cuts = ps
  | [], _, _, _, h, _, _, _, _, _ => absurd rfl h
  | [p], [], a, f, _, hp, e, ha, hch, hn => by
    show [strSub x a x.length] = [p]
    congr 1
    exact chs_ext ((sub_drop x a).trans e)
  | p :: q :: r, [], a, f, _, hp, e, ha, hch, hn => by
    have hf : f = a := hch
    subst hf
    rw [join_cons2] at e
    have e2 : chs x = ((chs x).take f ++ chs p) ++ chs sep ++ chs (Str.join sep (q :: r)) := by
      rw [List.append_assoc, List.append_assoc, ← List.append_assoc (chs p), ← e, List.take_append_drop]
    have := at_of e2
    refine absurd this (hn _ ?_)
    rw [List.length_append, List.length_take, chs_len x]
    omega
  | [p], k :: cs, a, f, _, hp, e, ha, hch, hn => by
    obtain ⟨h1, h2, h3, h4⟩ := hch
    have e1 := at_head h2 hc
    have e2 : (chs p)[k - a]? = some c := by
      rw [show chs p = (chs x).drop a from e.symm, List.getElem?_drop, show a + (k - a) = k by omega]
      exact e1
    exact absurd (List.mem_of_getElem? e2) (hp p List.mem_cons_self)
  | p :: q :: r, k :: cs, a, f, _, hp, e, ha, hch, hn => by
    obtain ⟨h1, h2, h3, h4⟩ := hch
    rw [join_cons2] at e
    have e2 : chs x = ((chs x).take a ++ chs p) ++ chs sep ++ chs (Str.join sep (q :: r)) := by
      rw [List.append_assoc, List.append_assoc, ← List.append_assoc (chs p), ← e, List.take_append_drop]
    have hA := at_of e2
    have hlen : ((chs x).take a ++ chs p).length = a + p.length := by
      rw [List.length_append, List.length_take, chs_len x, chs_len p, Nat.min_eq_left ha]
    rw [hlen] at hA
    have hk : k = a + p.length := by
      rcases Nat.lt_trichotomy k (a + p.length) with z | z | z
      · have e1 := at_head h2 hc
        have e3 : (chs p)[k - a]? = some c := by
          have e4 : ((chs x).drop a)[k - a]? = some c := by
            rw [List.getElem?_drop, show a + (k - a) = k by omega]
            exact e1
          rw [e, List.append_assoc, List.getElem?_append_left (by rw [chs_len]; omega)] at e4
          exact e4
        exact absurd (List.mem_of_getElem? e3) (hp p List.mem_cons_self)
      · exact z
      · exact absurd hA (h3 _ (by omega) z)
    subst hk
    show strSub x a (a + p.length) :: partsFrom x sep.length (a + p.length + sep.length) cs = p :: q :: r
    have hd : (chs x).drop (a + p.length + sep.length) = chs (Str.join sep (q :: r)) := by
      rw [Nat.add_assoc, ← List.drop_drop, e, ← chs_len p, ← chs_len sep, ← List.length_append, List.drop_append_of_le_length (Nat.le_refl _), List.drop_length, List.nil_append]
    have hb : a + p.length + sep.length ≤ x.length := hA.1
    rw [parts_join hc (q :: r) cs _ f (by simp) (fun p' hp' => hp p' (List.mem_cons_of_mem _ hp')) hd hb h4 hn]
    congr 1
    apply chs_ext
    rw [sub_take, e, Nat.add_sub_cancel_left, List.append_assoc, ← chs_len p, List.take_append_of_le_length (Nat.le_refl _), List.take_length]
theorem kind_pos (x : Str) : 1 ≤ Builtin.Str.strKind x := by
  unfold Builtin.Str.strKind
  repeat' split
  all_goals omega
theorem split_join {sep : Str} {c : Nat} {ps : List Str} (hc : (chs sep)[0]? = some c) (hk : Builtin.Str.strKind sep = 1) (hne : ps ≠ []) (hp : ∀ p ∈ ps, c ∉ chs p) : Txt.split (Str.join sep ps) sep = ps := by
  have hw : 1 ≤ sep.length := by
    rw [← chs_len]
    exact (List.getElem?_eq_some_iff.mp hc).1
  obtain ⟨f, hch, hn⟩ := occ_tight (Str.join sep ps) sep hw
  have key := parts_join (x := Str.join sep ps) hc ps _ 0 f hne hp (List.drop_zero) (Nat.zero_le _) hch hn
  have one : ∀ {x : Str}, partsFrom x sep.length 0 [] = [x] := fun {x} => by
    show [strSub x 0 x.length] = [x]
    congr 1
    exact chs_ext ((sub_drop x 0).trans List.drop_zero)
  unfold Txt.split
  by_cases h1 : (decide ((Str.join sep ps).length < sep.length) || decide (Builtin.Str.strKind (Str.join sep ps) < Builtin.Str.strKind sep)) = true
  · rw [if_pos h1]
    have h2 : (Str.join sep ps).length < sep.length := by
      rcases (Bool.or_eq_true _ _).mp h1 with z | z
      · exact of_decide_eq_true z
      · have := of_decide_eq_true z
        have := kind_pos (Str.join sep ps)
        omega
    cases hcut : occurrences (Str.join sep ps) sep 0 (Str.join sep ps).length ((Str.join sep ps).length + 1) with
    | nil => rw [hcut, one] at key; exact key
    | cons k cs =>
      rw [hcut] at hch
      have := hch.2.1.1
      omega
  · rw [if_neg h1]
    by_cases h2 : (occurrences (Str.join sep ps) sep 0 (Str.join sep ps).length ((Str.join sep ps).length + 1)).isEmpty = true
    · rw [if_pos h2]
      rw [List.isEmpty_iff.mp h2, one] at key
      exact key
    · rw [if_neg h2, partsBetween_eq]
      exact key
/-! ### a whole number's text -/
open PySem.NumText
abbrev numT (i : Int) : Str := Str.ofString (toString i)
theorem num_nat (m : Nat) : chs (numT (m : Int)) = (Nat.toDigits 10 m).map Char.toNat := PySem.W.KIN.signs_num m
theorem num_neg (m : Nat) : chs (numT (Int.negSucc m)) = 45 :: (Nat.toDigits 10 (m + 1)).map Char.toNat := by
  show (Str.ofString (toString (Int.negSucc m))).cps.toList = _
  rw [Str.ofString_eq_toList]
  show ("-" ++ Nat.repr (m + 1)).toList.map Char.toNat = _
  rw [String.toList_append, List.map_append, Nat.toList_repr]
  rfl
theorem digs_all (m : Nat) : AllDigits ((Nat.toDigits 10 m).map Char.toNat) := fun c hc => by
  obtain ⟨ch, hch, e⟩ := List.mem_map.mp hc
  have r := PyProof.Rows.digit_range (Nat.isDigit_of_mem_toDigits (by decide) (by decide) hch)
  rw [← e]
  exact r
theorem digs_ne (m : Nat) : (Nat.toDigits 10 m).map Char.toNat ≠ [] := fun e => by
  have h := toDigits_len_ge 10 m
  rw [List.map_eq_nil_iff.mp e] at h
  exact absurd h (by decide)
theorem digs_len {m k : Nat} (hk : 0 < k) (h : m < 10 ^ k) : ((Nat.toDigits 10 m).map Char.toNat).length ≤ k := by
  have e := PyProof.Rows.toString_length_le (v := (m : Int)) (Int.natCast_nonneg m) hk (by exact_mod_cast h)
  rw [← chs_len, num_nat] at e
  exact e
/-- what is told of a number's text -/
structure NumIs (i : Int) (x : Str) : Prop where
  sign : ∀ c ∈ chs x, c = 45 ∨ (48 ≤ c ∧ c ≤ 57)
  ne : chs x ≠ []
  read : intText? x = some i
  len : x.length ≤ 61
  pos : (chs x)[0]? ≠ some 45 → x.length ≤ 60
theorem num_is {i : Int} (h1 : -10 ^ 60 < i) (h2 : i < 10 ^ 60) : NumIs i (numT i) := by
  cases i with
  | ofNat m =>
    have hm : m < 10 ^ 60 := by
      have : ((m : Nat) : Int) < 10 ^ 60 := h2
      exact_mod_cast this
    have hl : (numT (Int.ofNat m)).length ≤ 60 := by
      rw [← chs_len, show chs (numT (Int.ofNat m)) = _ from num_nat m]
      exact digs_len (by decide) hm
    refine ⟨fun c hc => .inr ?_, ?_, ?_, by omega, fun _ => hl⟩
    · rw [show chs (numT (Int.ofNat m)) = _ from num_nat m] at hc
      exact digs_all m c hc
    · rw [show chs (numT (Int.ofNat m)) = _ from num_nat m]
      exact digs_ne m
    · have e := intText_digits (x := numT (Int.ofNat m)) (by rw [show (numT (Int.ofNat m)).cps.toList = _ from num_nat m]; exact digs_all m) (by rw [show (numT (Int.ofNat m)).cps.toList = _ from num_nat m]; exact digs_ne m) (by omega)
      rw [show (numT (Int.ofNat m)).cps.toList = _ from num_nat m, PySem.W.KIN.val_back] at e
      exact e
  | negSucc m =>
    have hm : m + 1 < 10 ^ 60 := by
      have h3 : -10 ^ 60 < Int.negSucc m := h1
      have : ((m + 1 : Nat) : Int) < ((10 ^ 60 : Nat) : Int) := by
        rw [Int.negSucc_eq] at h3
        have e : ((10 ^ 60 : Nat) : Int) = (10 : Int) ^ 60 := by norm_cast
        rw [e]
        push_cast
        omega
      exact_mod_cast this
    have hd := digs_len (by decide) hm
    have hl : (numT (Int.negSucc m)).length ≤ 61 := by
      rw [← chs_len, num_neg, List.length_cons]
      omega
    refine ⟨fun c hc => ?_, ?_, ?_, hl, fun z => ?_⟩
    · rw [num_neg] at hc
      rcases List.mem_cons.mp hc with e | hc
      · exact .inl e
      · exact .inr (digs_all _ c hc)
    · rw [num_neg]
      exact List.cons_ne_nil _ _
    · have e := intText_neg (x := numT (Int.negSucc m)) (num_neg m) (digs_all _) (digs_ne _) (by omega)
      rw [PySem.W.KIN.val_back] at e
      rw [e]
      rfl
    · rw [num_neg] at z
      exact absurd rfl z
theorem log_small {i : Int} (h1 : -10 ^ 60 < i) (h2 : i < 10 ^ 60) : i.natAbs.log2 < 1920 := by
  have h : i.natAbs < 2 ^ 1920 := by
    have : i.natAbs < 10 ^ 60 := by
      have e : ((10 ^ 60 : Nat) : Int) = (10 : Int) ^ 60 := by norm_cast
      have : (i.natAbs : Int) < ((10 ^ 60 : Nat) : Int) := by rw [e]; omega
      exact_mod_cast this
    exact Nat.lt_trans this (by decide +kernel)
  rcases Nat.eq_zero_or_pos i.natAbs with z | z
  · rw [z]; decide
  · exact (Nat.log2_lt (by omega)).mpr h
end Cut
set_option Elab.async false
set_option linter.all false
set_option maxRecDepth 100000
set_option maxHeartbeats 4000000
namespace L2
open PySem PySem.Spec PyProof.Rows
/-! ### texts: split, startswith, int(text), text[i:], f-strings, the signs of a text one by one -/
theorem vals_strs : ∀ (l : List (Str × Tok)), Vals ((l.map (·.1)).map V.str) (strValues l)
  | [] => .nil
  | p :: r => .cons ⟨p.2, rfl⟩ (vals_strs r)
theorem mt_split {X : Cx} : MtR X "str.split" (fun x vs H Q => ∃ z y, x = .str z ∧ vs = [.str y] ∧ (y.length == 0) = false ∧ z.length + 2 ≤ sizeLine ∧ ∀ l, H l = none → Q (.ref l) (upd H l (.lst ((Txt.split z y).map V.str)))) := by
  intro pins s σ H x xs v us Q I rx rxs h
  obtain ⟨z, y, rfl, rfl, hy, hz, q⟩ := h
  obtain ⟨t, rfl⟩ := rx
  obtain ⟨u, rfl, ⟨u', rfl⟩⟩ : ∃ u, us = [u] ∧ RelV (.str y) u := by
    cases rxs with
    | cons r r1 => cases r1; exact ⟨_, rfl, r⟩
  have hn : (Builtin.Str.partsBetween z (Builtin.Str.occurrences z y 0 z.length (z.length + 1)) y.length).length ≤ sizeLine := by
    have e1 := StrLaws.occ_length_le z y 0 z.length (z.length + 1)
    rw [length_partsBetween]; omega
  have hnew : H s.heap.objs.size = none := I.hok.fresh (Nat.le_refl _)
  have fin : ∀ (l : List (Str × Tok)) (k : Nat), l.map (·.1) = Txt.split z y → l.length ≤ sizeLine → EP X pins σ Q (.ref s.heap.objs.size) { s with heap := s.heap.push { cls := .type "list", data := .seq (strValues l).toArray }, toks := k } := fun l k e hl => by
    have q' := q _ hnew
    rw [← e] at q'
    refine ⟨.ref s.heap.objs.size, _, I.laid (t' := k) (fun b u e => Heap.get?_push_of_some _ e) (Nat.le_refl _) ?_, rfl, q'⟩
    exact ⟨by rw [List.length_map, List.length_map]; exact hl, strValues l, 0, vals_strs l, Heap.get?_push_size _ rfl⟩
  cases h1 : (decide (z.length < y.length) || decide (Builtin.Str.strKind z < Builtin.Str.strKind y))
  · cases hf : (Builtin.Str.occurrences z y 0 z.length (z.length + 1)).isEmpty
    · refine call_meets PySem.F.slot_str_split (typeIs_str _ _ _) PySem.F.entry_str_split (PySem.F.args_str_split_2 _ _) (meets_str_split_sep z y t u' h1 hy hf (by omega) hn) ?_
      show wants _ _ _ { s with toks := _, heap := s.heap.push { cls := .type "list", data := .seq (strsFrom s.toks (Builtin.Str.partsBetween z (Builtin.Str.occurrences z y 0 z.length (z.length + 1)) y.length)).toArray } }
      rw [strsFrom_eq]
      refine fin (numbered s.toks _) _ ((numbered_texts _ _).trans ((if_neg (ne_true_of_eq_false h1)).trans (if_neg (ne_true_of_eq_false hf))).symm) ?_
      have e := congrArg List.length (numbered_texts s.toks (Builtin.Str.partsBetween z (Builtin.Str.occurrences z y 0 z.length (z.length + 1)) y.length))
      rw [List.length_map] at e
      rw [e]; exact hn
    · exact call_meets PySem.F.slot_str_split (typeIs_str _ _ _) PySem.F.entry_str_split (PySem.F.args_str_split_2 _ _) (meets_str_split_not_found z y t u' h1 hy hf) (fin [(z, t)] s.toks ((if_neg (ne_true_of_eq_false h1)).trans (if_pos hf)).symm (show (1 : Nat) ≤ sizeLine by decide))
  · exact call_meets PySem.F.slot_str_split (typeIs_str _ _ _) PySem.F.entry_str_split (PySem.F.args_str_split_2 _ _) (meets_str_split_cannot_occur z y t u' h1) (fin [(z, t)] s.toks (if_pos h1).symm (show (1 : Nat) ≤ sizeLine by decide))
theorem mt_starts {X : Cx} : MtR X "str.startswith" (fun x vs H Q => ∃ z y, x = .str z ∧ vs = [.str y] ∧ Q (.bl (Txt.startswith z y)) H) := by
  intro pins s σ H x xs v us Q I rx rxs h
  obtain ⟨z, y, rfl, rfl, q⟩ := h
  obtain ⟨t, rfl⟩ := rx
  obtain ⟨u, rfl, ⟨u', rfl⟩⟩ : ∃ u, us = [u] ∧ RelV (.str y) u := by
    cases rxs with
    | cons r r1 => cases r1; exact ⟨_, rfl, r⟩
  exact SC.startswith ⟨.bl _, H, I, rfl, q⟩
theorem call_int_text {X : Cx} : CallR X (.type "int") (fun xs H Q => ∃ z n, xs = [.str z] ∧ intText? z = some n ∧ z.length ≤ 640 ∧ Q (.int n) H) := by
  intro pins s σ H xs us Q I rxs h
  obtain ⟨z, n, rfl, hn, hl, q⟩ := h
  obtain ⟨u, rfl, ⟨u', rfl⟩⟩ : ∃ u, us = [u] ∧ RelV (.str z) u := by
    cases rxs with
    | cons r r1 => cases r1; exact ⟨_, rfl, r⟩
  exact PySem.W.KIN.call_text hn hl ⟨.int n, H, I.tok _, ⟨_, rfl⟩, q⟩
theorem op_le_str {X : Cx} : OpR X (compareOp .LtE) (fun x y H Q => ∃ i j, x = .str i ∧ y = .str j ∧ Q (.bl (!decide (j.cps.toList < i.cps.toList))) H) := by
  intro pins s σ H x y v u Q I rx ry h
  obtain ⟨i, j, rfl, rfl, q⟩ := h
  obtain ⟨t, rfl⟩ := rx
  obtain ⟨t', rfl⟩ := ry
  exact PySem.P.le_str (fin_bl I q rfl)
theorem sl_str {X : Cx} : SlR X (fun x lo hi H Q => ∃ z i, x = .str z ∧ lo = some i ∧ hi = none ∧ z.length ≤ sizeLine ∧ Q (.str (Txt.slice z (some i) none)) H) := by
  intro pins s σ H x v vl vu lo hi sl Q I rx hs pl pu h
  obtain ⟨z, i, rfl, rfl, rfl, hz, q⟩ := h
  obtain ⟨t, rfl⟩ := rx
  cases pl with
  | int i ti =>
    cases pu
    refine ⟨"str", _, PySem.F.slot_str_getitem.lookup, typeIs_str _ _ _, wpAny_getItem_str_slice (l := some (i, ti)) (u := none) (st := none) ?_ rfl (post_val_or_str ⟨Nat.le_trans (Txt.slice_le z (some i) none) hz, fun t' k => ?_⟩)⟩
    · exact hs
    · exact ⟨.str _, H, I.tok _, ⟨t', rfl⟩, q⟩
/-! f-strings -/
def tFmt (t : TE) : TE := fun σ H Q => t σ H fun v H1 => ∃ y, v = .str y ∧ y.length ≤ sizeLine ∧ Q (.str y) H1
theorem pe_fmt {X : Cx} {e : Expr} {t : TE} {pos : Pos} (h : PE X e t) : PE X (.FormattedValue e (-1) none pos) (tFmt t) := by
  intro pins s σ H Q I hq
  refine FormattedValue_plain (thn (h pins s σ H _ I hq) fun v s1 ⟨x, H1, I1, r1, q1⟩ => ?_)
  obtain ⟨y, rfl, hy, q⟩ := q1
  obtain ⟨u, rfl⟩ := r1
  exact formatField_str (fun t' tk => ⟨.str y, H1, I1.tok _, ⟨t', rfl⟩, q⟩) hy
def tJ : List TE → Str → TE
  | [], acc => fun _ H Q => acc.length ≤ sizeLine ∧ Q (.str acc) H
  | t :: r, acc => fun σ H Q => t σ H fun v H1 => ∃ y, v = .str y ∧ (acc ++ y).length ≤ sizeLine ∧ tJ r (acc ++ y) σ H1 Q
inductive PEs (X : Cx) : List Expr → List TE → Prop
  | nil : PEs X [] []
  | cons {e : Expr} {t : TE} {es : List Expr} {ts : List TE} (h : PE X e t) (r : PEs X es ts) : PEs X (e :: es) (t :: ts)
theorem joins {X : Cx} : ∀ {es : List Expr} {ts : List TE}, PEs X es ts → ∀ (acc : Str) (pins : List (Addr × Obj)) (s : Shared) (σ : St) (H : Hp) (Q : VK), Inv X pins σ H s → tJ ts acc σ H Q → wpAny (model X.prog X.w) X.A (joinParts acc (evalEach es X.env)) (EP X pins σ Q) X.xe s
  | _, _, .nil, acc, pins, s, σ, H, Q, I, h => by
    obtain ⟨hz, q⟩ := h
    exact joinParts_nil ⟨.str acc, H, I.tok _, ⟨_, rfl⟩, q⟩ hz
  | _, _, .cons (e := e) (t := t) (es := es) (ts := ts) he r, acc, pins, s, σ, H, Q, I, h => by
    show wpAny _ _ (joinParts acc (eval e X.env :: evalEach es X.env)) _ _ s
    refine joinParts_cons (thn (he pins s σ H _ I h) fun v s1 ⟨x, H1, I1, r1, q1⟩ => ?_)
    obtain ⟨y, rfl, hz, q⟩ := q1
    obtain ⟨u, rfl⟩ := r1
    exact ⟨hz, joins r (acc ++ y) pins s1 σ H1 Q I1 q⟩
theorem pe_joined {X : Cx} {v1 v2 : Expr} {rest : List Expr} {ts : List TE} {pos : Pos} (h : PEs X (v1 :: v2 :: rest) ts) : PE X (.JoinedStr (v1 :: v2 :: rest) pos) (tJ ts Str.empty) := by
  intro pins s σ H Q I hq
  exact JoinedStr_many (joins h Str.empty pins s σ H Q I hq)
/-! the signs of a text -/
def Its (z : Str) : It := ⟨fun i _ => i < z.length, fun i H x H' => H' = H ∧ ∃ c, z.cps.toList[i]? = some c ∧ x = .str ⟨#[c]⟩, fun i _ => z.length ≤ i⟩
theorem turn_str {P : Program} {w : World} {K : PySem.W.Frag} {tg : Expr} (z : Str) (t : Tok) (it : Addr) : Turn P w K tg (Its z) [it] it (fun i h => h.IsStrIter it "str_ascii_iterator" z t i) where
  mem := by simp
  obj := fun i h st b hb => by
    have e : b = it := by simpa using hb
    subst e
    obtain ⟨o, e, c, d⟩ := st
    exact ⟨o, e, fun v z => by rw [d] at z; cases z⟩
  keep := fun i h h' st k => let ⟨o, e, r⟩ := st; ⟨o, k it (by simp) o e, r⟩
  item := by
    intro X hP hw hK hc i pins s σ H E I hf st hg
    subst hP hw hK
    obtain ⟨f0, f1, f2, f3, f4, f5⟩ := hf it (by simp)
    have W := Walks.strAscii (prog := X.prog) (w := X.w) (A := X.A) (I.ok.hd hc) it z t
    refine W.item i s _ _ hg st fun v h' tk hv st' kk => ?_
    obtain ⟨c, u, hcx, rfl⟩ := hv
    have I1 : Inv X pins σ H { s with heap := h', toks := tk } := I.turned (fun b o hb e => kk b o (by simpa using hb) e) f0 f1 f3 f4 f5
    obtain ⟨o', e1, e2, e3⟩ := id st'
    refine ⟨_, rfl, go_of (s := { s with heap := h', toks := tk }) (n := "str_ascii_iterator") e1 e2 e3 (by decide) ⟨.str ⟨#[c]⟩, H, I1, ⟨u, rfl⟩, ⟨rfl, c, ?_, rfl⟩, st', fun b hb => (hf b hb).1⟩⟩
    simpa using hcx
  done := by
    intro X hP hw hK hc i pins s σ H E I hf st hg
    subst hP hw hK
    obtain ⟨f0, f1, f2, f3, f4, f5⟩ := hf it (by simp)
    exact wpAny_pyNext_ascii_end (I.ok.hd hc) st (Array.getElem?_eq_none hg) fun h' eb => ⟨rfl, I.turned (t' := s.toks) (fun b o hb e => eb b o hb e) f0 f1 f3 f4 f5⟩
  self := fun _ _ _ _ _ st h => wpAny_pyIter_striter_ascii st h
def iStr (tl : TE) : TI := fun σ H R => tl σ H fun x H1 => ∃ z, x = .str z ∧ z.cps.all (· < 128) = true ∧ R (Its z) H1
theorem pi_str {X : Cx} {tg l : Expr} {tl : TE} (hl : PE X l tl) : PI X tg l (iStr tl) := by
  intro pins s σ H R I h
  refine thn (hl pins s σ H _ I h) fun v s1 ⟨x, H1, I1, r1, q1⟩ => ?_
  obtain ⟨z, e, hz, q⟩ := q1
  subst e
  obtain ⟨t, rfl⟩ := r1
  refine wpAny_pyIter_ascii hz ?_
  refine ⟨s1.heap.objs.size, [s1.heap.objs.size], _, _, H1, rfl, I1.kept (t' := s1.toks) fun b o e => Heap.get?_push_of_some _ e, turn_str z t _, ⟨_, Heap.get?_push_size _ rfl, rfl, rfl⟩, fun b hb => ?_, q⟩
  have e : b = s1.heap.objs.size := by simpa using hb
  subst e
  exact I1.fpOk (Nat.le_refl _) (I1.hok.fresh (Nat.le_refl _))
end L2
namespace Cut
open PySem L2 PyProof.Rows
theorem slice1_len {x : Str} (h : 1 ≤ x.length) : (Txt.slice x (some 1) none).length ≤ x.length - 1 := by
  have hl : (Builtin.Str.strSliceIndices (some 1) none 1 x.length).length = x.length - 1 := by
    unfold Builtin.Str.strSliceIndices sliceRange
    simp only [show (1 : Int) > 0 by decide, if_true, List.length_map, List.length_range]
    split <;> (try split) <;> (try simp only [Int.ediv_one]) <;> omega
  unfold Txt.slice
  rw [if_neg]
  · show (List.filterMap _ _).toArray.size ≤ _
    rw [List.size_toArray]
    exact Nat.le_trans (List.length_filterMap_le _ _) (Nat.le_of_eq hl)
  · rw [hl]
    intro z
    have := (Bool.and_eq_true _ _).mp z
    have := eq_of_beq this.2
    omega
theorem starts_minus {x : Str} : Txt.startswith x "-" = decide ((chs x)[0]? = some 45) := by
  have h1 : ("-" : Str).length = 1 := by decide +kernel
  have hm : ("-" : Str) = ⟨#[45]⟩ := by decide +kernel
  rw [hm]
  unfold Txt.startswith
  rw [Bool.eq_iff_iff, decide_eq_true_eq, Bool.and_eq_true, decide_eq_true_eq]
  constructor
  · rintro ⟨h, h2⟩
    exact at_head (y := ⟨#[45]⟩) ⟨h, h2⟩ rfl
  · intro h
    have hx : chs x = [] ++ chs (⟨#[45]⟩ : Str) ++ (chs x).drop 1 := by
      cases e : chs x with
      | nil => rw [e] at h; simp at h
      | cons c r => rw [e] at h; simp at h; subst h; rfl
    exact at_of hx
end Cut
set_option Elab.async false
set_option linter.all false
set_option maxRecDepth 100000
set_option maxHeartbeats 4000000
namespace Cut
open PySem L2 PyProof.Rows
/-! ### a try whose body raises nothing -/
theorem ps_tryN {X : Cx} {tb : TS} {h0 : ExceptHandler} {hs : List ExceptHandler} {body : List Stmt} {pos : Pos} (hb : ∀ xe' pn', PSs (Cx.alt X X.A X.calm pn' xe') body tb) : PS X (.Try body (h0 :: hs) [] [] pos) tb := by
  intro pins s σ H D I h1
  refine wpAny_Try_except ?_
  generalize hxe : (fun (e : Value) (s₁ : Shared) => wpAny (model X.prog X.w) X.A (noteFrame e X.env) (fun _ s₂ => wpAny (model X.prog X.w) X.A (setFlight e none) (fun _ s₃ => wpAny (model X.prog X.w) X.A (handleBy e X.env (h0 :: hs)) (SP X pins D) X.xe s₃) X.xe s₂) X.xe s₁) = xe'
  have I' : Inv (Cx.alt X X.A X.calm (X.pn ++ pins) xe') [] σ H s := inv_alt I rfl I.ok.hd (fun p hp => by simpa using hp)
  refine wpAny_mono (hb xe' (X.pn ++ pins) [] s σ H D I' h1) (fun f s1 q => ?fin) (fun e s1 q => q)
  have back : ∀ {σ' : L2.St} {H' : Hp}, Inv (Cx.alt X X.A X.calm (X.pn ++ pins) xe') [] σ' H' s1 → Inv X pins σ' H' s1 := fun J => inv_back I.ok J (fun p hp => by simpa using hp)
  cases f with
  | next => obtain ⟨σ', H', J, q⟩ := q; exact wpAny_execs_nil ⟨σ', H', back J, q⟩
  | brk => obtain ⟨σ', H', J, q⟩ := q; exact ⟨σ', H', back J, q⟩
  | cont => obtain ⟨σ', H', J, q⟩ := q; exact ⟨σ', H', back J, q⟩
  | ret u => obtain ⟨v, σ', H', J, r, q⟩ := q; exact ⟨v, σ', H', back J, r, q⟩
end Cut
set_option Elab.async false
set_option linter.all false
set_option maxRecDepth 100000
set_option maxHeartbeats 4000000
namespace Cut
open PySem PySem.StrLaws PySem.Builtin PySem.Builtin.Str L2
/-! ### a line's runs and their texts -/
abbrev RunV := Option Int × Option Int × V
def headC : List (Int × V) → Option Int
  | [] => none
  | q :: _ => some q.1
def allRuns : Option Int → V → List (Int × V) → List RunV
  | s, v, [] => [(s, none, v)]
  | s, v, q :: r => (s, some q.1, v) :: allRuns (some q.1) q.2 r
def heldR (r : RunV) : Bool := decide (r.2.2 ≠ .non)
def runsOf (s : Option Int) (v : V) (ps : List (Int × V)) : List RunV := (allRuns s v ps).filter heldR
theorem all_starts : ∀ (ps : List (Int × V)) (s : Option Int) (v : V), (allRuns s v ps).map (·.1) = s :: ps.map fun q => some q.1
  | [], _, _ => rfl
  | q :: r, s, v => by
    show s :: (allRuns (some q.1) q.2 r).map (·.1) = _
    rw [all_starts r]; rfl
theorem all_ends : ∀ (ps : List (Int × V)) (s : Option Int) (v : V), (allRuns s v ps).map (·.2.1) = (ps.map fun q => some q.1) ++ [none]
  | [], _, _ => rfl
  | q :: r, s, v => by
    show some q.1 :: (allRuns (some q.1) q.2 r).map (·.2.1) = _
    rw [all_ends r]; rfl
theorem all_vals : ∀ (ps : List (Int × V)) (s : Option Int) (v : V), (allRuns s v ps).map (·.2.2) = holdsV v ps
  | [], _, _ => rfl
  | q :: r, s, v => by
    show v :: (allRuns (some q.1) q.2 r).map (·.2.2) = _
    rw [all_vals r]; rfl
theorem all_len (ps : List (Int × V)) (s : Option Int) (v : V) : (allRuns s v ps).length = ps.length + 1 := by
  have := congrArg List.length (all_vals ps s v)
  rw [List.length_map] at this
  rw [this]
  show (ps.map (·.2)).length + 1 = _
  rw [List.length_map]
def endT : Option Int → Str
  | none => ""
  | some i => numT i
def wordOf : V → Str
  | .str x => x
  | _ => ""
def pieceT (r : RunV) : Str := endT r.1 ++ ".." ++ endT r.2.1 ++ " " ++ wordOf r.2.2
def Bd (i : Int) : Prop := -10 ^ 60 < i ∧ i < 10 ^ 60
structure EndOk (o : Option Int) : Prop where
  bd : ∀ a, o = some a → Bd a
theorem end_sign {o : Option Int} (h : EndOk o) : ∀ c ∈ chs (endT o), c = 45 ∨ (48 ≤ c ∧ c ≤ 57) := by
  cases o with
  | none => intro c hc; rw [show chs (endT none) = [] from by decide +kernel] at hc; cases hc
  | some a =>
    obtain ⟨h1, h2⟩ := h.bd a rfl
    exact (num_is h1 h2).sign
theorem end_len {o : Option Int} (h : EndOk o) : (endT o).length ≤ 61 := by
  cases o with
  | none => decide +kernel
  | some a =>
    obtain ⟨h1, h2⟩ := h.bd a rfl
    exact (num_is h1 h2).len
structure RunOk (r : RunV) : Prop where
  e1 : EndOk r.1
  e2 : EndOk r.2.1
  word : ∃ x, Word x ∧ r.2.2 = .str x
  lt : ∀ a b, r.1 = some a → r.2.1 = some b → a < b
theorem chs_dd : chs ".." = [46, 46] := by decide +kernel
theorem chs_sp : chs " " = [32] := by decide +kernel
theorem chs_cs : chs ", " = [44, 32] := by decide +kernel
theorem RunOk.letters {r : RunV} (h : RunOk r) : ∀ c ∈ chs (wordOf r.2.2), 97 ≤ c ∧ c ≤ 122 := by
  obtain ⟨x, hx, e⟩ := h.word
  rw [e]
  exact hx.2.2
theorem ends_chars {a b : Option Int} (ha : EndOk a) (hb : EndOk b) : ∀ c ∈ chs (endT a ++ ".." ++ endT b), c = 46 ∨ c = 45 ∨ (48 ≤ c ∧ c ≤ 57) := by
  intro c hc
  rw [chs_app, chs_app, chs_dd] at hc
  rcases List.mem_append.mp hc with hc | hc
  · rcases List.mem_append.mp hc with hc | hc
    · exact .inr (end_sign ha c hc)
    · simp at hc; exact .inl hc
  · exact .inr (end_sign hb c hc)
theorem piece_chars {r : RunV} (h : RunOk r) : ∀ c ∈ chs (pieceT r), c ≠ 44 := by
  intro c hc
  unfold pieceT at hc
  rw [chs_app, chs_app, chs_sp] at hc
  rcases List.mem_append.mp hc with hc | hc
  · rcases List.mem_append.mp hc with hc | hc
    · rcases ends_chars h.e1 h.e2 c hc with e | e | e <;> omega
    · simp at hc; omega
  · have := h.letters c hc; omega
theorem piece_split {r : RunV} (h : RunOk r) : Txt.split (pieceT r) " " = [endT r.1 ++ ".." ++ endT r.2.1, wordOf r.2.2] := by
  have e : pieceT r = Str.join " " [endT r.1 ++ ".." ++ endT r.2.1, wordOf r.2.2] := rfl
  rw [e]
  refine split_join (c := 32) (by rw [chs_sp]; rfl) (by decide +kernel) (by simp) fun p hp hc => ?_
  rcases List.mem_cons.mp hp with e | hp
  · rw [e] at hc
    rcases ends_chars h.e1 h.e2 _ hc with e | e | e <;> omega
  · rw [List.mem_singleton.mp hp] at hc
    have := h.letters _ hc; omega
theorem ends_split {a b : Option Int} (ha : EndOk a) (hb : EndOk b) : Txt.split (endT a ++ ".." ++ endT b) ".." = [endT a, endT b] := by
  have e : endT a ++ ".." ++ endT b = Str.join ".." [endT a, endT b] := rfl
  rw [e]
  refine split_join (c := 46) (by rw [chs_dd]; rfl) (by decide +kernel) (by simp) fun p hp hc => ?_
  rcases List.mem_cons.mp hp with e | hp
  · rw [e] at hc
    have := end_sign ha _ hc; omega
  · rw [List.mem_singleton.mp hp] at hc
    have := end_sign hb _ hc; omega
theorem text_split {rs : List RunV} (hne : rs ≠ []) (h : ∀ r ∈ rs, RunOk r) : Txt.split (Txt.join ", " (rs.map pieceT)) ", " = rs.map pieceT := by
  show Txt.split (glued ", " (rs.map pieceT)) ", " = _
  rw [glued_eq_join]
  refine split_join (c := 44) (by rw [chs_cs]; rfl) (by decide +kernel) (by simpa using hne) fun p hp hc => ?_
  obtain ⟨r, hr, rfl⟩ := List.mem_map.mp hp
  exact piece_chars (h r hr) _ hc rfl
theorem piece_len {r : RunV} (h : RunOk r) : (pieceT r).length ≤ 137 := by
  obtain ⟨x, hx, e⟩ := h.word
  have l1 := end_len h.e1
  have l2 := end_len h.e2
  unfold pieceT
  rw [Str.length_append, Str.length_append, Str.length_append, Str.length_append, e]
  have l3 : (wordOf (.str x)).length ≤ 12 := hx.2.1
  have l4 : (".." : Str).length = 2 := by decide +kernel
  have l5 : (" " : Str).length = 1 := by decide +kernel
  omega
theorem piece_pos {r : RunV} : 3 ≤ (pieceT r).length := by
  unfold pieceT
  rw [Str.length_append, Str.length_append, Str.length_append, Str.length_append]
  have l4 : (".." : Str).length = 2 := by decide +kernel
  have l5 : (" " : Str).length = 1 := by decide +kernel
  omega
/-! the runs of a line in the one form -/
def BdP (ps : List (Int × V)) : Prop := ∀ q ∈ ps, Bd q.1
theorem all_mem_ok : ∀ {ps : List (Int × V)} {s : Option Int} {v : V}, Strict ps → (∀ c, s = some c → ∀ q ∈ ps, c < q.1) → HV v → (∀ q ∈ ps, HV q.2) → EndOk s → BdP ps → ∀ r ∈ allRuns s v ps, heldR r = true → RunOk r
  | [], s, v, _, _, hv, _, hs, _, r, hr, hh => by
    rw [List.mem_singleton.mp (show r ∈ [(s, none, v)] from hr)] at hh ⊢
    refine ⟨hs, ⟨fun a e => by cases e⟩, ?_, fun a b _ e => by cases e⟩
    rcases hv with e | ⟨x, hx, e⟩
    · exact absurd e (of_decide_eq_true hh)
    · exact ⟨x, hx, e⟩
  | q :: ps, s, v, hst, hlo, hv, hvs, hs, hb, r, hr, hh => by
    have h2 := List.pairwise_cons.mp hst
    rcases List.mem_cons.mp (show r ∈ (s, some q.1, v) :: allRuns (some q.1) q.2 ps from hr) with e | hr
    · rw [e] at hh ⊢
      refine ⟨hs, ⟨fun a e => by cases e; exact hb q List.mem_cons_self⟩, ?_, fun a b e1 e2 => by cases e2; exact hlo a e1 q List.mem_cons_self⟩
      rcases hv with e | ⟨x, hx, e⟩
      · exact absurd e (of_decide_eq_true hh)
      · exact ⟨x, hx, e⟩
    · exact all_mem_ok h2.2 (fun c e q' hq' => by cases e; exact h2.1 q' hq') (hvs q List.mem_cons_self) (fun q' hq' => hvs q' (List.mem_cons_of_mem _ hq')) ⟨fun a e => by cases e; exact hb q List.mem_cons_self⟩ (fun q' hq' => hb q' (List.mem_cons_of_mem _ hq')) r hr hh
theorem runs_ok {ps : List (Int × V)} {v : V} (hF : Form v ps) (hb : BdP ps) : ∀ r ∈ runsOf none v ps, RunOk r := fun r hr => by
  obtain ⟨h1, h2⟩ := List.mem_filter.mp hr
  exact all_mem_ok hF.st (fun c e => by cases e) hF.hh.h0 hF.hh.hs ⟨fun a e => by cases e⟩ hb r h1 h2
/-- all starts of what follows are there, and not ahead -/
theorem all_from : ∀ {ps : List (Int × V)} {c : Int} {v : V}, Strict ps → (∀ q ∈ ps, c < q.1) → ∀ r ∈ allRuns (some c) v ps, ∃ c', r.1 = some c' ∧ c ≤ c'
  | [], c, v, _, _, r, hr => by rw [List.mem_singleton.mp (show r ∈ [(some c, none, v)] from hr)]; exact ⟨c, rfl, Int.le_refl _⟩
  | q :: ps, c, v, hst, hlo, r, hr => by
    have h2 := List.pairwise_cons.mp hst
    rcases List.mem_cons.mp (show r ∈ (some c, some q.1, v) :: allRuns (some q.1) q.2 ps from hr) with e | hr
    · rw [e]; exact ⟨c, rfl, Int.le_refl _⟩
    · obtain ⟨c', e, h⟩ := all_from h2.2 h2.1 r hr
      have := hlo q List.mem_cons_self
      exact ⟨c', e, by omega⟩
theorem filt_next {α : Type} {R : α → α → Prop} : ∀ {l : List α} {p : α → Bool}, l.Pairwise R → ∀ (j : Nat) (x y : α), (l.filter p)[j]? = some x → (l.filter p)[j + 1]? = some y → R x y := fun {l p} h j x y e1 e2 => by
  have h2 := h.filter p
  obtain ⟨l1, e1⟩ := List.getElem?_eq_some_iff.mp e1
  obtain ⟨l2, e2⟩ := List.getElem?_eq_some_iff.mp e2
  have := List.pairwise_iff_getElem.mp h2 j (j + 1) l1 l2 (by omega)
  rw [e1, e2] at this
  exact this
def Next (x y : RunV) : Prop := ∃ c c', x.2.1 = some c ∧ y.1 = some c' ∧ c ≤ c'
theorem all_pairs : ∀ {ps : List (Int × V)} {s : Option Int} {v : V}, Strict ps → (allRuns s v ps).Pairwise Next
  | [], _, _, _ => List.pairwise_singleton ..
  | q :: ps, s, v, hst => by
    have h2 := List.pairwise_cons.mp hst
    refine List.pairwise_cons.mpr ⟨fun y hy => ?_, all_pairs h2.2⟩
    obtain ⟨c', e, h⟩ := all_from h2.2 h2.1 y hy
    exact ⟨q.1, c', rfl, e, h⟩
theorem runs_next {ps : List (Int × V)} {v : V} (hF : Form v ps) (j : Nat) (x y : RunV) (e1 : (runsOf none v ps)[j]? = some x) (e2 : (runsOf none v ps)[j + 1]? = some y) : Next x y := filt_next (all_pairs hF.st) j x y e1 e2
theorem runs_none {ps : List (Int × V)} {v : V} (hF : Form v ps) (j : Nat) (x : RunV) (e1 : (runsOf none v ps)[j]? = some x) (e2 : x.1 = none) : j = 0 := by
  cases j with
  | zero => rfl
  | succ j =>
    have hj : j < (runsOf none v ps).length := by have := (List.getElem?_eq_some_iff.mp e1).1; omega
    obtain ⟨c, c', _, h, _⟩ := runs_next hF j _ x (List.getElem?_eq_getElem hj) e1
    rw [e2] at h; cases h
theorem runs_empty {ps : List (Int × V)} {v : V} (hF : Form v ps) (h : runsOf none v ps = []) : v = .non ∧ ps = [] := by
  have hall : ∀ r ∈ allRuns none v ps, ¬ heldR r = true := by
    intro r hr hh
    have : r ∈ runsOf none v ps := List.mem_filter.mpr ⟨hr, hh⟩
    rw [h] at this; cases this
  have hv : ∀ x ∈ holdsV v ps, x = .non := by
    intro x hx
    rw [← all_vals ps none v] at hx
    obtain ⟨r, hr, rfl⟩ := List.mem_map.mp hx
    by_cases e : r.2.2 = .non
    · exact e
    · exact absurd (decide_eq_true e) (hall r hr)
  have h0 : v = .non := hv v List.mem_cons_self
  refine ⟨h0, ?_⟩
  cases ps with
  | nil => rfl
  | cons q r =>
    have h1 : q.2 = .non := hv q.2 (List.mem_cons_of_mem _ (List.mem_map_of_mem List.mem_cons_self))
    exact absurd (h1.trans h0.symm) hF.df.1
/-! what line_through makes of them -/
def stepR (st : V × List (Int × V)) (r : RunV) : V × List (Int × V) :=
  let st1 := match r.1 with
    | none => (r.2.2, ([] : List (Int × V)))
    | some c => (st.1, st.2 ++ [(c, r.2.2)])
  match r.2.1 with
  | none => st1
  | some c => (st1.1, st1.2 ++ [(c, .non)])
def tp : Int → V → List (Int × V) → List (Int × V)
  | s, v, [] => if v = .non then [] else [(s, v)]
  | s, v, q :: r => (if v = .non then [] else [(s, v), (q.1, .non)]) ++ tp q.1 q.2 r
def t0 (v : V) : List (Int × V) → List (Int × V)
  | [] => []
  | q :: r => (if v = .non then [] else [(q.1, .non)]) ++ tp q.1 q.2 r
theorem t0_cons (v : V) (q : Int × V) (r : List (Int × V)) : t0 v (q :: r) = (if v = .non then [] else [(q.1, .non)]) ++ tp q.1 q.2 r := rfl
theorem runsOf_nil (s : Option Int) (v : V) : runsOf s v [] = if v = .non then [] else [(s, none, v)] := by
  unfold runsOf allRuns
  rw [List.filter_cons]
  by_cases h : v = .non
  · rw [if_pos h, if_neg (by unfold heldR; simp [h])]; rfl
  · rw [if_neg h, if_pos (show heldR _ = true from decide_eq_true h)]; rfl
theorem runsOf_cons (s : Option Int) (v : V) (q : Int × V) (r : List (Int × V)) : runsOf s v (q :: r) = (if v = .non then [] else [(s, some q.1, v)]) ++ runsOf (some q.1) q.2 r := by
  show (allRuns s v (q :: r)).filter heldR = _
  unfold allRuns
  rw [List.filter_cons]
  by_cases h : v = .non
  · rw [if_pos h, if_neg (by unfold heldR; simp [h])]; rfl
  · rw [if_neg h, if_pos (show heldR _ = true from decide_eq_true h)]; rfl
theorem fold_some : ∀ (ps : List (Int × V)) (s : Int) (v h0 : V) (qs : List (Int × V)), (runsOf (some s) v ps).foldl stepR (h0, qs) = (h0, qs ++ tp s v ps)
  | [], s, v, h0, qs => by
    rw [runsOf_nil]
    unfold tp
    by_cases h : v = .non
    · rw [if_pos h, if_pos h, List.append_nil]; rfl
    · rw [if_neg h, if_neg h]; rfl
  | q :: r, s, v, h0, qs => by
    rw [runsOf_cons, List.foldl_append]
    unfold tp
    by_cases h : v = .non
    · rw [if_pos h, if_pos h, List.nil_append]
      exact fold_some r q.1 q.2 h0 qs
    · rw [if_neg h, if_neg h]
      show (runsOf (some q.1) q.2 r).foldl stepR (h0, qs ++ [(s, v)] ++ [(q.1, .non)]) = _
      rw [fold_some r]
      simp
theorem fold_none (ps : List (Int × V)) (v : V) : (runsOf none v ps).foldl stepR (.non, []) = (v, t0 v ps) := by
  cases ps with
  | nil =>
    rw [runsOf_nil]
    by_cases h : v = .non
    · rw [if_pos h, h]; rfl
    · rw [if_neg h]; rfl
  | cons q r =>
    rw [runsOf_cons, List.foldl_append]
    rw [t0_cons]
    by_cases h : v = .non
    · rw [if_pos h, if_pos h, h]
      exact fold_some r q.1 q.2 .non []
    · rw [if_neg h, if_neg h]
      show (runsOf (some q.1) q.2 r).foldl stepR (v, [] ++ [(q.1, .non)]) = _
      rw [fold_some r]
      rfl
theorem tp_low : ∀ {ps : List (Int × V)} {s : Int} {v : V}, Strict ps → (∀ q ∈ ps, s < q.1) → ∀ z ∈ tp s v ps, s ≤ z.1
  | [], s, v, _, _, z, hz => by
    unfold tp at hz
    split at hz
    · cases hz
    · rw [List.mem_singleton.mp hz]; exact Int.le_refl _
  | q :: r, s, v, hst, hlo, z, hz => by
    have h2 := List.pairwise_cons.mp hst
    have hq := hlo q List.mem_cons_self
    unfold tp at hz
    rcases List.mem_append.mp hz with hz | hz
    · split at hz
      · cases hz
      · simp at hz
        rcases hz with e | e <;> rw [e] <;> omega
    · have := tp_low h2.2 h2.1 z hz
      omega
theorem tp_rise : ∀ {ps : List (Int × V)} {s : Int} {v : V}, Strict ps → (∀ q ∈ ps, s < q.1) → Rise (tp s v ps)
  | [], s, v, _, _ => by
    unfold tp
    split
    · exact List.Pairwise.nil
    · exact List.pairwise_singleton ..
  | q :: r, s, v, hst, hlo => by
    have h2 := List.pairwise_cons.mp hst
    have hq := hlo q List.mem_cons_self
    have hlow := tp_low (v := q.2) h2.2 h2.1
    have ih := tp_rise (v := q.2) h2.2 h2.1
    unfold tp
    split
    · exact ih
    · refine List.pairwise_cons.mpr ⟨fun z hz => ?_, List.pairwise_cons.mpr ⟨fun z hz => hlow z hz, ih⟩⟩
      rcases List.mem_cons.mp hz with e | hz
      · rw [e]; exact Int.le_of_lt hq
      · have := hlow z hz; show s ≤ z.1; omega
theorem tp_at : ∀ {ps : List (Int × V)} {s : Int} {v : V} {x : Int}, Strict ps → (∀ q ∈ ps, s < q.1) → atL .non (tp s v ps) x = if x < s then .non else atL v ps x
  | [], s, v, x, _, _ => by
    unfold tp
    by_cases h : v = .non
    · rw [if_pos h]
      show V.non = _
      split
      · rfl
      · exact h.symm
    · rw [if_neg h]
      show (if s ≤ x then v else V.non) = _
      by_cases hx : x < s
      · rw [if_pos hx, if_neg (by omega)]
      · rw [if_neg hx, if_pos (by omega)]; rfl
  | q :: r, s, v, x, hst, hlo => by
    have h2 := List.pairwise_cons.mp hst
    have hq := hlo q List.mem_cons_self
    have ih := tp_at (v := q.2) (x := x) h2.2 h2.1
    have hr : x < q.1 → atL v r x = v := fun hx => atL_low fun z hz => by have := h2.1 z hz; omega
    have hR : atL v (q :: r) x = if x < q.1 then v else atL q.2 r x := by
      show atL (if q.1 ≤ x then q.2 else v) r x = _
      by_cases hx : x < q.1
      · rw [if_neg (by omega), if_pos hx]; exact hr hx
      · rw [if_pos (by omega), if_neg hx]
    rw [hR]
    unfold tp
    by_cases h : v = .non
    · rw [if_pos h, List.nil_append, ih, h]
      by_cases hx : x < q.1
      · rw [if_pos hx]; split <;> rfl
      · rw [if_neg hx, if_neg (by omega)]
    · rw [if_neg h]
      show atL (if q.1 ≤ x then .non else (if s ≤ x then v else .non)) (tp q.1 q.2 r) x = _
      by_cases hx : x < q.1
      · rw [if_neg (by omega), if_pos hx]
        rw [atL_low fun z hz => by have := tp_low h2.2 h2.1 z hz; omega]
        by_cases hs : x < s
        · rw [if_pos hs, if_neg (by omega)]
        · rw [if_neg hs, if_pos (by omega)]
      · rw [if_pos (by omega), ih, if_neg hx, if_neg (by omega), if_neg hx]
theorem t0_rise {ps : List (Int × V)} {v : V} (hst : Strict ps) : Rise (t0 v ps) := by
  cases ps with
  | nil => exact List.Pairwise.nil
  | cons q r =>
    have h2 := List.pairwise_cons.mp hst
    rw [t0_cons]
    split
    · exact tp_rise h2.2 h2.1
    · exact List.pairwise_cons.mpr ⟨fun z hz => tp_low h2.2 h2.1 z hz, tp_rise h2.2 h2.1⟩
theorem t0_at {ps : List (Int × V)} {v : V} {x : Int} (hst : Strict ps) : atL v (t0 v ps) x = atL v ps x := by
  cases ps with
  | nil => rfl
  | cons q r =>
    have h2 := List.pairwise_cons.mp hst
    have ih := tp_at (v := q.2) (x := x) h2.2 h2.1
    have hR : atL v (q :: r) x = if x < q.1 then v else atL q.2 r x := by
      show atL (if q.1 ≤ x then q.2 else v) r x = _
      by_cases hx : x < q.1
      · rw [if_neg (by omega), if_pos hx]; exact atL_low fun z hz => by have := h2.1 z hz; omega
      · rw [if_pos (by omega), if_neg hx]
    rw [hR]
    rw [t0_cons]
    by_cases h : v = .non
    · rw [if_pos h, List.nil_append, h, ih]
    · rw [if_neg h]
      show atL (if q.1 ≤ x then .non else v) (tp q.1 q.2 r) x = _
      by_cases hx : x < q.1
      · rw [if_neg (by omega), if_pos hx]
        exact atL_low fun z hz => by have := tp_low h2.2 h2.1 z hz; omega
      · rw [if_pos (by omega), ih, if_neg hx, if_neg hx]
theorem tp_hv : ∀ {ps : List (Int × V)} {s : Int} {v : V}, HV v → (∀ q ∈ ps, HV q.2) → ∀ z ∈ tp s v ps, HV z.2
  | [], s, v, hv, _, z, hz => by
    unfold tp at hz
    split at hz
    · cases hz
    · rw [List.mem_singleton.mp hz]; exact hv
  | q :: r, s, v, hv, hvs, z, hz => by
    unfold tp at hz
    rcases List.mem_append.mp hz with hz | hz
    · split at hz
      · cases hz
      · simp at hz
        rcases hz with e | e <;> rw [e]
        · exact hv
        · exact HV.non
    · exact tp_hv (hvs q List.mem_cons_self) (fun q' hq' => hvs q' (List.mem_cons_of_mem _ hq')) z hz
theorem t0_hv {ps : List (Int × V)} {v : V} (hh : Holds v ps) : Holds v (t0 v ps) := by
  refine ⟨hh.h0, fun z hz => ?_⟩
  cases ps with
  | nil => cases hz
  | cons q r =>
    rw [t0_cons] at hz
    rcases List.mem_append.mp hz with hz | hz
    · split at hz
      · cases hz
      · rw [List.mem_singleton.mp hz]; exact HV.non
    · exact tp_hv (hh.hs q List.mem_cons_self) (fun q' hq' => hh.hs q' (List.mem_cons_of_mem _ hq')) z hz
theorem tp_len : ∀ (ps : List (Int × V)) (s : Int) (v : V), (tp s v ps).length ≤ 2 * ps.length + 1
  | [], s, v => by
    unfold tp
    split <;> simp
  | q :: r, s, v => by
    have ih := tp_len r q.1 q.2
    unfold tp
    rw [List.length_append, List.length_cons]
    split <;> simp <;> omega
theorem t0_len (ps : List (Int × V)) (v : V) : (t0 v ps).length ≤ 2 * ps.length + 1 := by
  cases ps with
  | nil => simp [t0]
  | cons q r =>
    have ih := tp_len r q.1 q.2
    rw [t0_cons]
    rw [List.length_append, List.length_cons]
    split <;> simp <;> omega
theorem t0_form {ps : List (Int × V)} {v : V} (hF : Form v ps) : formP v (t0 v ps) = ps :=
  (Form.of (t0_rise hF.st) (t0_hv hF.hh)).unique hF fun x => by rw [atL_form (t0_rise hF.st), t0_at hF.st]
end Cut
set_option Elab.async false
set_option linter.all false
set_option maxRecDepth 100000
set_option maxHeartbeats 4000000
namespace Cut
open PySem L2 PyProof.Rows
def top (i : Nat) : Stmt := PySem.Challenge.pw_cutline_k13_lines_written.main.body.getD i (.Pass ⟨0, 0, 0, 0⟩)
abbrev s_Line_init : Stmt := inClass (top 4) 0
abbrev s_own_copy : Stmt := top 5
abbrev s_line_of : Stmt := top 6
abbrev s_empty_line : Stmt := top 7
abbrev s_shown_run : Stmt := top 11
abbrev s_shown : Stmt := top 12
abbrev s_figures_of : Stmt := top 13
abbrev s_place_read : Stmt := top 14
abbrev s_is_value : Stmt := top 15
abbrev s_run_read : Stmt := top 16
abbrev s_check_order : Stmt := top 17
abbrev s_line_through : Stmt := top 18
abbrev s_read : Stmt := top 19
abbrev s_law_cell_at : Stmt := top 21
abbrev s_law_names : Stmt := top 22
abbrev s_law_told : Stmt := top 23
abbrev s_law_at : Stmt := top 24
abbrev s_law_form : Stmt := top 25
abbrev s_law_whole : Stmt := top 26
abbrev s_law_held : Stmt := top 27
abbrev s_law_line : Stmt := top 28
abbrev s_law_end_text : Stmt := top 29
abbrev s_law_text : Stmt := top 30
abbrev s_law : Stmt := top 31
theorem sc_Line_init : FnScope ["self", "cuts", "holds"] ["self", "cuts", "holds"] (defScope s_Line_init) := ⟨rfl, rfl, rfl, by decide +kernel, rfl, by decide +kernel, by decide +kernel⟩
theorem sc_own_copy : FnScope ["thing", "fresh", "key"] ["thing"] (defScope s_own_copy) := ⟨rfl, rfl, rfl, by decide +kernel, rfl, by decide +kernel, by decide +kernel⟩
theorem sc_line_of : FnScope ["cuts", "holds", "kept_cuts", "kept_holds", "number", "cut", "last_of_alike", "hold"] ["cuts", "holds"] (defScope s_line_of) := ⟨rfl, rfl, rfl, by decide +kernel, rfl, by decide +kernel, by decide +kernel⟩
theorem sc_empty_line : FnScope [] [] (defScope s_empty_line) := ⟨rfl, rfl, rfl, by decide +kernel, rfl, by decide +kernel, by decide +kernel⟩
theorem sc_shown_run : FnScope ["start", "end", "value"] ["start", "end", "value"] (defScope s_shown_run) := ⟨rfl, rfl, rfl, by decide +kernel, rfl, by decide +kernel, by decide +kernel⟩
theorem sc_shown : FnScope ["line", "places", "written", "start", "end", "value"] ["line"] (defScope s_shown) := ⟨rfl, rfl, rfl, by decide +kernel, rfl, by decide +kernel, by decide +kernel⟩
theorem sc_figures_of : FnScope ["text"] ["text"] (defScope s_figures_of) := ⟨rfl, rfl, rfl, by decide +kernel, rfl, by decide +kernel, by decide +kernel⟩
theorem sc_place_read : FnScope ["text", "place"] ["text"] (defScope s_place_read) := ⟨rfl, rfl, rfl, by decide +kernel, rfl, by decide +kernel, by decide +kernel⟩
theorem sc_is_value : FnScope ["text"] ["text"] (defScope s_is_value) := ⟨rfl, rfl, rfl, by decide +kernel, rfl, by decide +kernel, by decide +kernel⟩
theorem sc_run_read : FnScope ["text", "words", "ends"] ["text"] (defScope s_run_read) := ⟨rfl, rfl, rfl, by decide +kernel, rfl, by decide +kernel, by decide +kernel⟩
theorem sc_check_order : FnScope ["found", "start", "end", "value", "ahead", "behind"] ["found"] (defScope s_check_order) := ⟨rfl, rfl, rfl, by decide +kernel, rfl, by decide +kernel, by decide +kernel⟩
theorem sc_line_through : FnScope ["found", "cuts", "holds", "start", "end", "value"] ["found"] (defScope s_line_through) := ⟨rfl, rfl, rfl, by decide +kernel, rfl, by decide +kernel, by decide +kernel⟩
theorem sc_read : FnScope ["text", "found", "line"] ["text"] (defScope s_read) := ⟨rfl, rfl, rfl, by decide +kernel, rfl, by decide +kernel, by decide +kernel⟩
theorem sc_law_cell_at : FnScope ["script", "k"] ["script", "k"] (defScope s_law_cell_at) := ⟨rfl, rfl, rfl, by decide +kernel, rfl, by decide +kernel, by decide +kernel⟩
theorem sc_law_names : FnScope ["cell", "letters", "first", "size"] ["cell"] (defScope s_law_names) := ⟨rfl, rfl, rfl, by decide +kernel, rfl, by decide +kernel, by decide +kernel⟩
theorem sc_law_told : FnScope ["cells", "names", "cuts", "holds", "place", "cell"] ["cells", "names"] (defScope s_law_told) := ⟨rfl, rfl, rfl, by decide +kernel, rfl, by decide +kernel, by decide +kernel⟩
theorem sc_law_at : FnScope ["told", "place", "value", "k"] ["told", "place"] (defScope s_law_at) := ⟨rfl, rfl, rfl, by decide +kernel, rfl, by decide +kernel, by decide +kernel⟩
theorem sc_law_form : FnScope ["told", "cuts", "holds", "edge", "value"] ["told"] (defScope s_law_form) := ⟨rfl, rfl, rfl, by decide +kernel, rfl, by decide +kernel, by decide +kernel⟩
theorem sc_law_whole : FnScope ["found"] ["found"] (defScope s_law_whole) := ⟨rfl, rfl, rfl, by decide +kernel, rfl, by decide +kernel, by decide +kernel⟩
theorem sc_law_held : FnScope ["found", "due"] ["found", "due"] (defScope s_law_held) := ⟨rfl, rfl, rfl, by decide +kernel, rfl, by decide +kernel, by decide +kernel⟩
theorem sc_law_line : FnScope ["found", "due", "k"] ["found", "due"] (defScope s_law_line) := ⟨rfl, rfl, rfl, by decide +kernel, rfl, by decide +kernel, by decide +kernel⟩
theorem sc_law_end_text : FnScope ["place"] ["place"] (defScope s_law_end_text) := ⟨rfl, rfl, rfl, by decide +kernel, rfl, by decide +kernel, by decide +kernel⟩
theorem sc_law_text : FnScope ["form", "ends", "pieces", "k", "ends_text"] ["form"] (defScope s_law_text) := ⟨rfl, rfl, rfl, by decide +kernel, rfl, by decide +kernel, by decide +kernel⟩
theorem sc_law : FnScope ["script", "told", "far", "step", "form", "line", "due", "found"] ["script"] (defScope s_law) := ⟨rfl, rfl, rfl, by decide +kernel, rfl, by decide +kernel, by decide +kernel⟩
section
variable {P : Program} {w : World} {K : PySem.W.Frag} {mg : Str → Option Value} {base : Heap} {C : Addr}
theorem ok_init {f : Addr} {fd : FuncData} (F : Fun K "__init__" "Line.__init__" s_Line_init f fd) (T : Txt K mg C) : FnOk P w K mg base CX0 1 f fd ["self", "cuts", "holds"] (spInit C) := by
  refine F.ok sc_Line_init (fun vs H Q E h => ?_) (fun cdv A outer s H vs Q E hr h => ?_)
  · obtain ⟨p, dx, a, b, rfl, _⟩ := h
    rfl
  · obtain ⟨p, dx, a, b, rfl, hp, k⟩ := h
    refine ⟨_, pss_cons (ps_fld (pv 0) (pv 1) rfl) (pss_one (ps_fld (pv 0) (pv 2) rfl)), ?_⟩
    refine ⟨_, rfl, _, rfl, p, C, dx, [], rfl, hp, T.cl, T.nC, (by show 0 < 1000; decide), _, rfl, _, rfl, p, C, dx, _, rfl, upd_same, T.cl, T.nH, (by show 1 < 1000; decide), ?_⟩
    show Q .non (upd (upd H p _) p _)
    rw [upd_upd]
    exact k
theorem ok_own {f : Addr} {fd : FuncData} (F : Fun K "own_copy" "own_copy" s_own_copy f fd) (T : Txt K mg C) : FnOk P w K mg base CX0 1 f fd ["thing"] spOwn := by
  refine F.ok sc_own_copy (fun vs H Q E h => ?_) (fun cdv A outer s H vs Q E hr h => ?_)
  · obtain ⟨v, rfl, _⟩ := h
    rfl
  · obtain ⟨v, rfl, hv, k⟩ := h
    obtain ⟨t, ty, k1, k2, k3, _⟩ := hv.ty (K := K) (H := H)
    refine ⟨_, pss_cons (ps_if (pt_val (pe_callB call_isinst rfl T.isinstance boot_isinstance (pa_cons (pv 0) (pa_cons (pe_bltn rfl T.list boot_list (v := .ty "list") rfl) pa_nil)))) pss_never pss_nil)
      (pss_cons (ps_if (pt_val (pe_callB call_isinst rfl T.isinstance boot_isinstance (pa_cons (pv 0) (pa_cons (pe_bltn rfl T.tuple boot_tuple (v := .ty "tuple") rfl) pa_nil)))) pss_never pss_nil)
      (pss_cons (ps_if (pt_val (pe_callB call_isinst rfl T.isinstance boot_isinstance (pa_cons (pv 0) (pa_cons (pe_bltn rfl T.dict boot_dict (v := .ty "dict") rfl) pa_nil)))) pss_never pss_nil)
      (pss_one (ps_ret (pv 0))))), ?_⟩
    refine ⟨_, rfl, _, _, _, _, _, rfl, ty, rfl, k1, _, rfl, iteF ?_⟩
    refine ⟨_, rfl, _, _, _, _, _, rfl, ty, rfl, k2, _, rfl, iteF ?_⟩
    refine ⟨_, rfl, _, _, _, _, _, rfl, ty, rfl, k3, _, rfl, iteF ?_⟩
    exact ⟨_, rfl, k⟩

theorem ok_line_of {f fI : Addr} {fd fdI : FuncData} (F : Fun K "line_of" "line_of" s_line_of f fd) (T : Txt K mg C) (M : Mk K C fI) (GI : FnOk P w K mg base CX0 1 fI fdI ["self", "cuts", "holds"] (spInit C)) (bI : Binds K fdI ["self", "cuts", "holds"] [])
    (DO : Def P w K mg base "own_copy" ["thing"] 1 spOwn) : FnOk P w K mg base CX0 3 f fd ["cuts", "holds"] (spLineOf K C) := by
  refine F.ok sc_line_of (fun vs H Q E h => ?_) (fun cdv A outer s H vs Q E hr h => ?_)
  · obtain ⟨a, b, v, ps, rfl, _⟩ := h
    rfl
  · obtain ⟨a, b, v, ps, rfl, ha, hb, hh, hlen, k⟩ := h
    have hr1 : Room 1 _ := hr.mono (by decide)
    refine ⟨_, pss_cons (ps_set (i := 2) sc_line_of.nd rfl (Or.inl rfl) (pe_lst pa_nil))
      (pss_cons (ps_set (i := 3) sc_line_of.nd rfl (Or.inl rfl) (pe_lst (pa_cons (pe_callD DO hr1 rfl (pa_cons (pe_ix ix_list (pv 1) pe_int (fun _ _ => rfl)) pa_nil)) pa_nil)))
      (pss_cons (ps_for PassesOwn.never rfl (pi_enum rfl T.enumerate (pa_cons (pv 0) pa_nil)) (pg_tup rfl (pgs_cons (pg_name (i := 4) sc_line_of.nd rfl (Or.inl rfl)) (pgs_cons (pg_name (i := 5) sc_line_of.nd rfl (Or.inl rfl)) pgs_nil)))
        (pss_cons (ps_set (i := 6) sc_line_of.nd rfl (Or.inl rfl) (pe_or (pe_cmpR op_eq (pe_op op_add (pv 4) pe_int) (pe_callB call_len_seq rfl T.len PySem.boot_len (pa_cons (pv 0) pa_nil)) (nomark _))
          (pe_one (pe_cmpR op_ne (pe_ix ix_list (pv 0) (pe_op op_add (pv 4) pe_int) (fun _ _ => rfl)) (pv 5) (nomark _)))))
        (pss_cons (ps_set (i := 7) sc_line_of.nd rfl (Or.inl rfl) (pe_ix ix_list (pv 1) (pe_op op_add (pv 4) pe_int) (fun _ _ => rfl)))
        (pss_one (ps_if (PW.pt (pw_and (pt_val (pv 6)) (pw_and1 (pt_not (pt_cmpR op_eq (pv 7) (pe_ix ix_list (pv 3) (pe_un un_neg pe_int) (fun _ _ => rfl)) (nomark _))))))
          (pss_cons (ps_expr (pe_bm PySem.F.plainAttrs_list PySem.F.slot_list_append PySem.F.type_list_append mt_append (pv 2) (pa_cons (pv 5) pa_nil)))
          (pss_one (ps_expr (pe_bm PySem.F.plainAttrs_list PySem.F.slot_list_append PySem.F.type_list_append mt_append (pv 3) (pa_cons (pe_callD DO hr1 rfl (pa_cons (pv 7) pa_nil)) pa_nil)))))
          pss_nil)))))
      (pss_one (ps_ret (pe_make M GI hr rfl T.mgC bI .nil pass0 (pa_cons (pv 2) (pa_cons (pv 3) pa_nil))))))), ?_⟩
    refine ⟨Nat.zero_le _, fun kc hkc => ?_⟩
    have hb1 : SqL K (upd H kc (.lst [])) b (holdsV v ps) := (Same.new hkc).seq hb
    refine ⟨_, rfl, b, _, 0, v, rfl, rfl, hb1, atN (j := 0) rfl rfl, _, rfl, hh.h0, smallL (by show 1 ≤ 2000; decide), fun kh hkh => ?_⟩
    have hkh0 : H kh = none := (Same.new hkc).free hkh
    have nkk : kc ≠ kh := fun e => by rw [← e, upd_same] at hkh; cases hkh
    have s0 : Same H (upd (upd H kc (.lst [])) kh (.lst [v])) := Same.upd (Same.new hkc) hkh0
    refine ⟨_, rfl, a, rfl, ⟨_, s0.seq ha⟩, for_enum (K := K) (a := a) (xs := cutsV ps) (fun i σ H2 => ∃ (kp : List (Int × V)) (x4 x5 x6 x7 : Option V), σ = [some (.ref a), some (.ref b), some (.ref kc), some (.ref kh), x4, x5, x6, x7] ∧ Same H H2 ∧
      H2 kc = some (.lst (cutsV kp)) ∧ H2 kh = some (.lst (holdsV v kp)) ∧ Holds v kp ∧ kp.length ≤ i ∧ kp ++ formP (lastH v kp) (ps.drop i) = formP v ps) ?_ (fun i σ H2 _ ⟨_, _, _, _, _, _, s2, _⟩ => s2.seq ha) ?_ ?_⟩
    · exact ⟨[], none, none, none, none, rfl, s0, by rw [upd_ne nkk, upd_same]; rfl, upd_same, ⟨hh.h0, fun q hq => nomatch hq⟩, Nat.le_refl _, rfl⟩
    · rintro i y t σ H2 hi ht ⟨kp, x4, x5, x6, x7, rfl, s2, h2c, h2h, hkp, hki, hform⟩
      have hil : i < ps.length := by
        have := (List.getElem?_eq_some_iff.mp hi).1
        rw [List.length_map] at this
        exact this
      obtain ⟨q, hq⟩ : ∃ q, ps[i]? = some q := ⟨ps[i], List.getElem?_eq_getElem hil⟩
      obtain rfl : V.int q.1 = y := by
        rw [List.getElem?_map, hq] at hi
        exact Option.some.inj hi
      have hqh : HV q.2 := hh.hs q (List.mem_of_getElem? hq)
      have hdrop : ps.drop i = q :: ps.drop (i + 1) := by
        rw [List.drop_eq_getElem_cons hil]
        congr 1
        have := List.getElem?_eq_getElem hil
        rw [hq] at this
        exact (Option.some.inj this).symm
      have s3 : Same H (upd H2 t (.tup [.int (i : Int), .int q.1])) := Same.upd s2 (s2.free ht)
      have g2c : (upd H2 t (.tup [.int (i : Int), .int q.1])) kc = some (.lst (cutsV kp)) := by rw [upd_ne (ne_of_none h2c ht)]; exact h2c
      have g2h : (upd H2 t (.tup [.int (i : Int), .int q.1])) kh = some (.lst (holdsV v kp)) := by rw [upd_ne (ne_of_none h2h ht)]; exact h2h
      refine ⟨t, _, rfl, SqT.of upd_same, rfl, _, _, rfl, _, _, rfl, rfl, ?_⟩
      generalize upd H2 t (.tup [.int (i : Int), .int q.1]) = H3 at s3 g2c g2h ⊢
      have lenC : (cutsV ps).length = ps.length := List.length_map ..
      refine ⟨_, rfl, _, _, rfl, rfl, _, rfl, a, _, rfl, .inl (s3.seq ha), rfl, _, rfl, orV (!decide (V.int ((ps.getD (i + 1) q).1) = V.int q.1)) (fun hc Q' q' => ?_) ?_⟩
      · have hne : ¬ ((i : Int) + 1 = ((cutsV ps).length : Int)) := fun e => by
          have := of_decide_eq_false hc
          exact this (congrArg V.int e)
        have hi1 : i + 1 < ps.length := by rw [lenC] at hne; omega
        refine ⟨_, rfl, _, rfl, _, _, rfl, rfl, a, _, _, V.int ((ps.getD (i + 1) q).1), rfl, rfl, s3.seq ha, atN (j := i + 1) (by omega) ?_, _, rfl, rfl, q'⟩
        rw [List.getElem?_map, List.getElem?_eq_getElem hi1, List.getD_eq_getElem?_getD, List.getElem?_eq_getElem hi1]
        rfl
      · have hL : (decide (V.int ((i : Int) + 1) = V.int ((cutsV ps).length : Int)) || !decide (V.int ((ps.getD (i + 1) q).1) = V.int q.1)) = lastA q (ps.drop (i + 1)) := by
          by_cases e : i + 1 = ps.length
          · have e1 : ps.drop (i + 1) = [] := List.drop_eq_nil_of_le (by omega)
            rw [e1, lenC, decide_eq_true (by rw [← e]; rfl)]
            rfl
          · have hi1 : i + 1 < ps.length := by omega
            have e1 : ps.drop (i + 1) = ps[i + 1] :: ps.drop (i + 2) := List.drop_eq_getElem_cons hi1
            have e2 : ps.getD (i + 1) q = ps[i + 1] := by rw [List.getD_eq_getElem?_getD, List.getElem?_eq_getElem hi1]; rfl
            rw [e1, e2, lenC, decide_eq_false (by intro z; injection z with z; omega), Bool.false_or]
            show (!decide _) = decide _
            rw [Bool.eq_iff_iff]
            simp
        rw [hL]
        refine ⟨_, rfl, _, rfl, _, _, rfl, rfl, b, _, _, q.2, rfl, rfl, s3.seq hb, atN (j := i + 1) (by omega) (by show (ps.map (·.2))[i]? = _; rw [List.getElem?_map, hq]; rfl), ?_⟩
        refine ⟨_, rfl, _, rfl, andT (!decide (q.2 = lastH v kp)) (fun _ Q' q' => ?_) ?_⟩
        · exact ⟨_, rfl, _, rfl, _, rfl, kh, _, _, _, rfl, rfl, SqL.of g2h, atI_lastH v kp, hqh.scal (lastH_hv hkp), _, rfl, q'⟩
        · refine ite2 (fun hc => ?_) (fun hc => ?_)
          · rw [Bool.and_eq_true] at hc
            have hne : q.2 ≠ lastH v kp := fun e => by
              have := hc.2
              rw [decide_eq_true e] at this
              cases this
            refine ⟨_, rfl, .inl ⟨rfl, _, SqL.of g2c⟩, _, rfl, kc, _, _, rfl, rfl, g2c, small (by rw [List.length_map]; omega), ?_⟩
            refine ⟨_, rfl, .inl ⟨rfl, _, SqL.of (by rw [upd_ne nkk.symm]; exact g2h)⟩, _, rfl, _, rfl, hqh, kh, _, _, rfl, rfl, (by rw [upd_ne nkk.symm]; exact g2h), small (by show (kp.map _).length + 1 ≤ 2000; rw [List.length_map]; omega), ?_⟩
            refine ⟨kp ++ [q], _, _, _, _, rfl, Same.upd (Same.upd s3 hkc) hkh0, ?_, ?_, ⟨hkp.h0, fun z hz => ?_⟩, ?_, ?_⟩
            · rw [upd_ne nkk, upd_same]
              show _ = some (HO.lst ((kp ++ [q]).map _))
              rw [List.map_append]; rfl
            · rw [upd_same]
              show _ = some (HO.lst (v :: (kp ++ [q]).map _))
              rw [List.map_append]; rfl
            · rcases List.mem_append.mp hz with z1 | z1
              · exact hkp.hs z z1
              · rw [List.mem_singleton.mp z1]; exact hqh
            · rw [List.length_append, List.length_singleton]; omega
            · rw [lastH_snoc, ← hform, hdrop]
              show _ = kp ++ (if lastA q (ps.drop (i + 1)) = true ∧ q.2 ≠ lastH v kp then q :: formP q.2 (ps.drop (i + 1)) else _)
              rw [if_pos ⟨hc.1, hne⟩, List.append_assoc]; rfl
          · refine ⟨kp, _, _, _, _, rfl, s3, g2c, g2h, hkp, by omega, ?_⟩
            rw [← hform, hdrop]
            show _ = kp ++ (if lastA q (ps.drop (i + 1)) = true ∧ q.2 ≠ lastH v kp then _ else formP (lastH v kp) (ps.drop (i + 1)))
            rw [if_neg]
            intro z
            refine hc ?_
            rw [z.1, decide_eq_false z.2]; rfl
    · rintro σ H2 ⟨kp, x4, x5, x6, x7, rfl, s2, h2c, h2h, hkp, hki, hform⟩
      have e : ps.drop (cutsV ps).length = [] := List.drop_eq_nil_of_le (by rw [List.length_map]; exact Nat.le_refl _)
      rw [e] at hform
      have e2 : kp = formP v ps := by rw [← hform]; show kp = kp ++ []; rw [List.append_nil]
      subst e2
      refine ⟨_, rfl, _, rfl, fun x dx nx ndx nex => ⟨x, dx, kc, kh, rfl, upd_same, rfl, ?_⟩⟩
      have hx0 : H x = none := s2.free nx
      have hd0 : H dx = none := s2.free ndx
      refine k x _ (Same.upd (Same.upd (Same.upd s2 hd0) hx0) hx0) ⟨dx, kc, kh, hx0, hkc, hkh0, upd_same, ?_, ?_⟩
      · rw [upd_ne (ne_of_none h2c nx), upd_ne (ne_of_none h2c nx), upd_ne (ne_of_none h2c ndx)]; exact h2c
      · rw [upd_ne (ne_of_none h2h nx), upd_ne (ne_of_none h2h nx), upd_ne (ne_of_none h2h ndx)]; exact h2h
end
end Cut
set_option Elab.async false
set_option linter.all false
set_option maxRecDepth 100000
set_option maxHeartbeats 4000000
namespace Cut
open PySem L2 PyProof.Rows
section
variable {P : Program} {w : World} {K : PySem.W.Frag} {mg : Str → Option Value} {base : Heap} {C : Addr}
def textOf (v : V) (ps : List (Int × V)) : Str := Txt.join ", " ((runsOf none v ps).map pieceT)
theorem xs_all (v : V) (ps : List (Int × V)) : (V.str "" :: ps.map fun q => V.str (numT q.1)) = (allRuns none v ps).map fun r => V.str (endT r.1) := by
  have e : (allRuns none v ps).map (fun r => V.str (endT r.1)) = ((allRuns none v ps).map (·.1)).map fun o => V.str (endT o) := by rw [List.map_map]; rfl
  rw [e, all_starts, List.map_cons, List.map_map]
  rfl
theorem ys_all (v : V) (ps : List (Int × V)) : ((ps.map fun q => V.str (numT q.1)) ++ [V.str ""]) = (allRuns none v ps).map fun r => V.str (endT r.2.1) := by
  have e : (allRuns none v ps).map (fun r => V.str (endT r.2.1)) = ((allRuns none v ps).map (·.2.1)).map fun o => V.str (endT o) := by rw [List.map_map]; rfl
  rw [e, all_ends, List.map_append, List.map_map]
  rfl
def spShownRun : Sp := fun vs H Q _ => ∃ a b c : Str, vs = [.str a, .str b, .str c] ∧ a.length ≤ 100 ∧ b.length ≤ 100 ∧ c.length ≤ 100 ∧ Q (.str (a ++ ".." ++ b ++ " " ++ c)) H
theorem ok_shown_run {f : Addr} {fd : FuncData} (F : Fun K "shown_run" "shown_run" s_shown_run f fd) : FnOk P w K mg base CX0 1 f fd ["start", "end", "value"] spShownRun := by
  refine F.ok sc_shown_run (fun vs H Q E h => ?_) (fun cdv A outer s H vs Q E hr h => ?_)
  · obtain ⟨a, b, c, rfl, _⟩ := h
    rfl
  · obtain ⟨a, b, c, rfl, la, lb, lc, k⟩ := h
    refine' ⟨_, pss_one (ps_ret (pe_joined (.cons (pe_fmt (pv 0)) (.cons pe_str (.cons (pe_fmt (pv 1)) (.cons pe_str (.cons (pe_fmt (pv 2)) .nil))))))), ?_⟩
    have l4 : (".." : Str).length = 2 := by decide +kernel
    have l5 : (" " : Str).length = 1 := by decide +kernel
    have sm : ∀ {n : Nat}, n ≤ 2000 → n ≤ sizeLine := fun h => smallL h
    refine ⟨_, rfl, a, rfl, sm (by omega), a, rfl, sm (by rw [Str.empty_append]; omega), "..", rfl, sm (by rw [Str.empty_append, Str.length_append]; omega), _, rfl, b, rfl, sm (by omega), b, rfl, sm (by rw [Str.empty_append, Str.length_append, Str.length_append]; omega), " ", rfl, sm (by rw [Str.empty_append, Str.length_append, Str.length_append, Str.length_append]; omega), _, rfl, c, rfl, sm (by omega), c, rfl, sm (by rw [Str.empty_append, Str.length_append, Str.length_append, Str.length_append, Str.length_append]; omega), sm (by rw [Str.empty_append, Str.length_append, Str.length_append, Str.length_append, Str.length_append]; omega), ?_⟩
    rw [Str.empty_append]
    exact k
theorem boot_strT : bootBuiltins "str" = some (.type "str") := by decide +kernel
abbrev scS1 : Scope := { kind := .function, names := [(".0", .local), ("cut", .local), ("str", .globalImplicit)], isGenerator := false, isCoroutine := false, more := [] }
theorem cs_s1 : CScope (defScope s_shown) scS1 ["line", "places", "written", "start", "end", "value"] ["cut"] [] "cut" :=
  ⟨rfl, by decide +kernel, by decide +kernel, by decide +kernel, by decide +kernel, rfl, by decide +kernel, by decide +kernel, by decide +kernel, by decide +kernel⟩
def ivT : V → Int
  | .int n => n
  | _ => 0
theorem join_small {zs : List Str} {n : Nat} (hn : zs.length ≤ n) (h : ∀ z ∈ zs, z.length ≤ 137) : (zs.map (·.length)).sum + zs.length * (", " : Str).length ≤ n * 139 := by
  have e := StrLaws.sumLen_le zs h
  have l : (", " : Str).length = 2 := by decide +kernel
  rw [l]
  omega
def spShown (C : Addr) : Sp := fun vs H Q _ => ∃ (p : Addr) (v : V) (ps : List (Int × V)), vs = [.ref p] ∧ LineAt C H p v ps ∧ Form v ps ∧ BdP ps ∧ ps.length ≤ 70 ∧ ∀ H', Same H H' → Q (.str (textOf v ps)) H'
theorem ok_shown {f : Addr} {fd : FuncData} (F : Fun K "shown" "shown" s_shown f fd) (T : Txt K mg C) (zz : mg "zip" = none) (DR : Def P w K mg base "shown_run" ["start", "end", "value"] 1 spShownRun) : FnOk P w K mg base CX0 2 f fd ["line"] (spShown C) := by
  refine F.ok sc_shown (fun vs H Q E h => ?_) (fun cdv A outer s H vs Q E hr h => ?_)
  · obtain ⟨p, v, ps, rfl, _⟩ := h
    rfl
  · obtain ⟨p, v, ps, rfl, hL, hF, hb, hlen, k⟩ := h
    have hr1 : Room 1 _ := hr.mono (by decide)
    refine' ⟨_, pss_cons (ps_setC (i := 1) sc_shown.nd rfl (Or.inl rfl) cs_s1 rfl rfl rfl (pi_list (pe_fld (pv 0) rfl)) (fun _ _ _ _ _ => pf_nil) ?a1)
      (pss_cons (ps_set (i := 2) sc_shown.nd rfl (Or.inl rfl) (pe_lst pa_nil))
      (pss_cons (ps_for PassesOwn.never rfl ?b1 (pg_tup rfl (pgs_cons (pg_name (i := 3) sc_shown.nd rfl (Or.inl rfl)) (pgs_cons (pg_name (i := 4) sc_shown.nd rfl (Or.inl rfl)) (pgs_cons (pg_name (i := 5) sc_shown.nd rfl (Or.inl rfl)) pgs_nil)))) (pss_one (ps_if (pt_cmp (pc_notN (pv 5))) (pss_one (ps_expr ?b2)) pss_nil)))
      (pss_one (ps_ret ?c1)))), ?rd⟩
    case a1 => exact fun _ _ _ _ _ => pe_callTy call_str_int rfl T.str boot_strT (pa_cons (pv 0) pa_nil)
    case b1 =>
      refine' pi_zip3 rfl zz (pa_cons ?x1 (pa_cons ?x2 (pa_cons ?x3 pa_nil)))
      case x1 => exact pe_op op_cat (pe_lst (pa_cons pe_str pa_nil)) (pv 1)
      case x2 => exact pe_op op_cat (pv 1) (pe_lst (pa_cons pe_str pa_nil))
      case x3 => exact pe_fld (pv 0) rfl
    case b2 =>
      refine' pe_bm PySem.F.plainAttrs_list PySem.F.slot_list_append PySem.F.type_list_append mt_append (pv 2) (pa_cons ?x pa_nil)
      case x => exact pe_callD DR hr1 rfl (pa_cons (pv 3) (pa_cons (pv 4) (pa_cons (pv 5) pa_nil)))
    case c1 => exact pe_bm PySem.F.plainAttrs_str PySem.F.slot_str_join PySem.F.type_str_join mt_join pe_str (pa_cons (pv 2) pa_nil)
    case rd =>
    obtain ⟨dx, pc, ph, g1, g2, g3⟩ := hL
    refine ⟨_, rfl, p, C, dx, _, _, rfl, g1, T.cl, T.nC, flds_cuts _ _, pc, rfl, ⟨_, SqL.of g2⟩, ?_⟩
    refine comp_map (K := K) (js := []) (fun x => V.str (numT (ivT x))) (SqL.of g2) ?q1 ?q2 ?q3
    case q1 => show (cutsV ps).length ≤ 2000; rw [List.length_map]; omega
    case q2 =>
      intro x H2 Q' hx s2 q'
      obtain ⟨q, hq, rfl⟩ := List.mem_map.mp hx
      obtain ⟨b1, b2⟩ := hb q hq
      exact ⟨_, rfl, _, rfl, log_small b1 b2, q'⟩
    case q3 =>
    intro lp hlp
    have emap : (cutsV ps).map (fun x => V.str (numT (ivT x))) = ps.map fun q => V.str (numT q.1) := by
      unfold cutsV
      rw [List.map_map]; rfl
    rw [emap]
    have s1 : Same H (upd H lp (.lst (ps.map fun q => V.str (numT q.1)))) := Same.new hlp
    have glp : (upd H lp (.lst (ps.map fun q => V.str (numT q.1)))) lp = some (.lst (ps.map fun q => V.str (numT q.1))) := upd_same
    generalize upd H lp (.lst (ps.map fun q => V.str (numT q.1))) = H1 at s1 glp ⊢
    refine ⟨Nat.zero_le _, fun lw hlw => ?_⟩
    have hlw0 : H lw = none := s1.free hlw
    have s2 : Same H1 (upd H1 lw (.lst [])) := Same.new hlw
    have glw : (upd H1 lw (.lst [])) lw = some (.lst []) := upd_same
    have glp2 := s2 _ _ glp
    have nlp : lp ≠ lw := ne_of_none glp hlw
    generalize upd H1 lw (.lst []) = H2 at s2 glw glp2 ⊢
    have s02 := s1.trans s2
    -- the three lists
    refine ⟨smallL (by show 1 ≤ 2000; decide), fun l1 hl1 => ?_⟩
    have s3 : Same H2 (upd H2 l1 (.lst [.str ""])) := Same.new hl1
    have gl1 : (upd H2 l1 (.lst [.str ""])) l1 = some (.lst [.str ""]) := upd_same
    generalize upd H2 l1 (.lst [.str ""]) = H3 at s3 gl1 ⊢
    refine ⟨_, rfl, l1, lp, _, _, rfl, rfl, gl1, s3 _ _ glp2, smallL (by rw [List.length_map]; show 1 + ps.length ≤ 2000; omega), fun l2 hl2 => ?_⟩
    have e2 : [V.str ""] ++ (ps.map fun q => V.str (numT q.1)) = (allRuns none v ps).map fun r => V.str (endT r.1) := xs_all v ps
    rw [e2]
    have s4 : Same H3 (upd H3 l2 (.lst ((allRuns none v ps).map fun r => V.str (endT r.1)))) := Same.new hl2
    have gl2 : (upd H3 l2 (.lst ((allRuns none v ps).map fun r => V.str (endT r.1)))) l2 = some (.lst ((allRuns none v ps).map fun r => V.str (endT r.1))) := upd_same
    generalize upd H3 l2 (.lst ((allRuns none v ps).map fun r => V.str (endT r.1))) = H4 at s4 gl2 ⊢
    have s24 := s3.trans s4
    refine ⟨_, rfl, smallL (by show 1 ≤ 2000; decide), fun l3 hl3 => ?_⟩
    have s5 : Same H4 (upd H4 l3 (.lst [.str ""])) := Same.new hl3
    have gl3 : (upd H4 l3 (.lst [.str ""])) l3 = some (.lst [.str ""]) := upd_same
    generalize upd H4 l3 (.lst [.str ""]) = H5 at s5 gl3 ⊢
    refine ⟨lp, l3, _, _, rfl, rfl, (s24.trans s5) _ _ glp2, gl3, smallL (by rw [List.length_map]; show ps.length + 1 ≤ 2000; omega), fun l4 hl4 => ?_⟩
    rw [ys_all v ps]
    have s6 : Same H5 (upd H5 l4 (.lst ((allRuns none v ps).map fun r => V.str (endT r.2.1)))) := Same.new hl4
    have gl4 : (upd H5 l4 (.lst ((allRuns none v ps).map fun r => V.str (endT r.2.1)))) l4 = some (.lst ((allRuns none v ps).map fun r => V.str (endT r.2.1))) := upd_same
    generalize upd H5 l4 (.lst ((allRuns none v ps).map fun r => V.str (endT r.2.1))) = H6 at s6 gl4 ⊢
    have s46 : Same H4 H6 := s5.trans s6
    have s26 : Same H2 H6 := s24.trans s46
    have s06 : Same H H6 := s02.trans s26
    have gl26 := s46 _ _ gl2
    have glw6 := s26 _ _ glw
    have n2 : l2 ≠ lw := fun e => by
      rw [e] at hl2
      exact absurd (s3 _ _ glw) (by rw [hl2]; simp)
    have n4 : l4 ≠ lw := fun e => by
      rw [e] at hl4
      exact absurd ((s24.trans s5) _ _ glw) (by rw [hl4]; simp)
    have nh : ph ≠ lw := fun e => by rw [e, hlw0] at g3; cases g3
    refine ⟨_, rfl, p, C, dx, _, _, rfl, s06 _ _ g1, T.cl, T.nH, flds_holds _ _, l2, l4, ph, _, _, _, rfl, SqL.of gl26, SqL.of gl4, SqL.of (s06 _ _ g3), ?_⟩
    have ha := all_len ps none v
    have hok : ∀ r ∈ allRuns none v ps, heldR r = true → RunOk r := fun r hr hh => all_mem_ok hF.st (fun c e => by cases e) hF.hh.h0 hF.hh.hs ⟨fun a e => by cases e⟩ hb r hr hh
    refine for_zip3 (K := K) (a := l2) (b := l4) (c := ph) (xs := (allRuns none v ps).map fun r => V.str (endT r.1)) (ys := (allRuns none v ps).map fun r => V.str (endT r.2.1)) (zs := holdsV v ps) (ps.length + 1) (by rw [List.length_map, ha]) (by rw [List.length_map, ha]) (by show (ps.map (·.2)).length + 1 = _; rw [List.length_map])
      (fun i σ H' => ∃ y3 y4 y5 : Option V, σ = [some (.ref p), some (.ref lp), some (.ref lw), y3, y4, y5] ∧ Same H H' ∧ H' lw = some (.lst ((((allRuns none v ps).take i).filter heldR).map fun r => V.str (pieceT r))) ∧ H' l2 = some (.lst ((allRuns none v ps).map fun r => V.str (endT r.1))) ∧ H' l4 = some (.lst ((allRuns none v ps).map fun r => V.str (endT r.2.1)))) ?_ (fun i σ H' _ ⟨_, _, _, _, s', _, h5, h6⟩ => ⟨SqL.of h5, SqL.of h6, SqL.of (s' _ _ g3)⟩) ?_ ?_
    · exact ⟨none, none, none, rfl, s06, glw6, gl26, gl4⟩
    · rintro i x y z t σ H' hx hy hz ht ⟨y3, y4, y5, rfl, s7, gw, g2', g4'⟩
      rw [List.getElem?_map] at hx hy
      obtain ⟨r, hri, rfl⟩ := Option.map_eq_some_iff.mp hx
      rw [hri] at hy
      cases hy
      have hzr : z = r.2.2 := by
        rw [← all_vals ps none v, List.getElem?_map, hri] at hz
        cases hz; rfl
      subst hzr
      have hil : i < (allRuns none v ps).length := (List.getElem?_eq_some_iff.mp hri).1
      have s8 : Same H' (upd H' t (.tup [V.str (endT r.1), V.str (endT r.2.1), r.2.2])) := Same.new ht
      have gt : (upd H' t (.tup [V.str (endT r.1), V.str (endT r.2.1), r.2.2])) t = some (.tup [V.str (endT r.1), V.str (endT r.2.1), r.2.2]) := upd_same
      refine ⟨t, _, rfl, SqT.of gt, rfl, _, _, rfl, _, _, rfl, _, _, rfl, rfl, ?_⟩
      have gw8 := s8 _ _ gw
      have g28 := s8 _ _ g2'
      have g48 := s8 _ _ g4'
      have s78 := s7.trans s8
      generalize upd H' t (.tup [V.str (endT r.1), V.str (endT r.2.1), r.2.2]) = H8 at gw8 g28 g48 s78 ⊢
      refine ⟨_, rfl, _, rfl, ite2 (fun hc => ?_) (fun hc => ?_)⟩
      · have hh : heldR r = true := decide_eq_true fun e => by rw [decide_eq_true e] at hc; cases hc
        have ro := hok r (List.mem_of_getElem? hri) hh
        obtain ⟨wx, hw, ew⟩ := ro.word
        have ll : ((((allRuns none v ps).take i).filter heldR).map fun r => V.str (pieceT r)).length ≤ 71 := by
          rw [List.length_map]
          refine Nat.le_trans (List.length_filter_le ..) ?_
          rw [List.length_take]; omega
        have l1 := end_len ro.e1
        have l2' := end_len ro.e2
        refine ⟨_, rfl, .inl ⟨rfl, _, SqL.of gw8⟩, _, rfl, _, rfl, _, rfl, endT r.1, endT r.2.1, wx, by rw [ew]; rfl, by omega, by omega, by have := hw.2.1; omega, lw, _, _, rfl, rfl, gw8, small (by omega), ?_⟩
        refine ⟨_, _, _, rfl, Same.upd s78 hlw0, ?_, by rw [upd_ne n2]; exact g28, by rw [upd_ne n4]; exact g48⟩
        rw [upd_same, List.take_add_one, hri]
        show some (HO.lst _) = some (HO.lst _)
        congr 2
        rw [show (some r).toList = [r] from rfl, List.filter_append, List.map_append, List.filter_cons, if_pos hh]
        have ep : pieceT r = endT r.1 ++ ".." ++ endT r.2.1 ++ " " ++ wx := by unfold pieceT; rw [ew]; rfl
        rw [← ep]
        rfl
      · have hn : r.2.2 = .non := by
          by_cases e : r.2.2 = .non
          · exact e
          · exact absurd (by rw [decide_eq_false e]; rfl) hc
        have hh : ¬ heldR r = true := fun h => of_decide_eq_true h hn
        refine ⟨_, _, _, rfl, s78, ?_, g28, g48⟩
        rw [gw8, List.take_add_one, hri, show (some r).toList = [r] from rfl, List.filter_append, List.filter_cons, if_neg hh]
        simp
    · rintro σ H' ⟨y3, y4, y5, rfl, s7, gw, _, _⟩
      rw [List.take_of_length_le (by omega)] at gw
      have ez : (((allRuns none v ps).filter heldR).map fun r => V.str (pieceT r)) = ((runsOf none v ps).map pieceT).map V.str := by rw [List.map_map]; rfl
      rw [ez] at gw
      have hl : ((runsOf none v ps).map pieceT).length ≤ 71 := by
        rw [List.length_map]
        refine Nat.le_trans (List.length_filter_le ..) ?_
        omega
      have hs := join_small hl fun z hz => by
        obtain ⟨r, hr, rfl⟩ := List.mem_map.mp hz
        exact piece_len (runs_ok hF hb r hr)
      exact ⟨rfl, _, rfl, ", ", lw, _, rfl, rfl, SqL.of gw, Nat.le_trans hs (by decide), k _ s7⟩
end
end Cut
set_option Elab.async false
set_option linter.all false
set_option maxRecDepth 100000
set_option maxHeartbeats 4000000
namespace Cut
open PySem L2 PyProof.Rows
section
variable {P : Program} {w : World} {K : PySem.W.Frag} {mg : Str → Option Value} {base : Heap} {C : Addr}
theorem iteFd {p A B : Prop} [Decidable p] (h : ¬ p) (hb : B) : if decide p = true then A else B := by
  rw [if_neg fun z => h (of_decide_eq_true z)]
  exact hb
theorem boot_intT : bootBuiltins "int" = some (.type "int") := by decide +kernel
theorem chs_empty : chs "" = [] := by decide +kernel
theorem end_none {o : Option Int} (h : EndOk o) : (V.str (endT o) = V.str "") ↔ o = none := by
  constructor
  · intro e
    cases o with
    | none => rfl
    | some a =>
      obtain ⟨h1, h2⟩ := h.bd a rfl
      have e1 : numT a = "" := V.str.inj e
      exact absurd (by rw [show chs (numT a) = chs "" from congrArg chs e1, chs_empty]) (num_is h1 h2).ne
  · intro e; rw [e]; rfl
def spFigures : Sp := fun vs H Q _ => ∃ x : Str, vs = [.str x] ∧ 1 ≤ x.length ∧ x.length ≤ 100 ∧ ∀ y : Str, ((chs x)[0]? = some 45 → y.length ≤ x.length - 1) → ((chs x)[0]? ≠ some 45 → y = x) → Q (.str y) H
theorem ok_figures {f : Addr} {fd : FuncData} (F : Fun K "figures_of" "figures_of" s_figures_of f fd) : FnOk P w K mg base CX0 1 f fd ["text"] spFigures := by
  refine F.ok sc_figures_of (fun vs H Q E h => ?_) (fun cdv A outer s H vs Q E hr h => ?_)
  · obtain ⟨x, rfl, _⟩ := h
    rfl
  · obtain ⟨x, rfl, l1, l2, k⟩ := h
    refine' ⟨_, pss_one (ps_ret (pe_ifExp (pt_val ?a) (pe_slice sl_str (pv 0) (po_some pe_int) po_none) (pv 0))), ?_⟩
    case a => exact pe_bm PySem.F.plainAttrs_str PySem.F.slot_str_startswith PySem.F.type_str_startswith mt_starts (pv 0) (pa_cons pe_str pa_nil)
    refine ⟨_, rfl, rfl, x, "-", rfl, rfl, _, rfl, ?_⟩
    rw [starts_minus]
    refine ite2 (fun hc => ?_) (fun hc => ?_)
    · have h45 := of_decide_eq_true hc
      exact ⟨_, rfl, _, rfl, x, 1, rfl, rfl, rfl, smallL (by omega), k _ (fun _ => slice1_len l1) fun h => absurd h45 h⟩
    · have h45 : (chs x)[0]? ≠ some 45 := fun e => hc (decide_eq_true e)
      exact ⟨_, rfl, k x (fun h => absurd h h45) fun _ => rfl⟩
def spPlace : Sp := fun vs H Q _ => ∃ o : Option Int, vs = [.str (endT o)] ∧ EndOk o ∧ Q (optV o) H
theorem ok_place {f : Addr} {fd : FuncData} {tm : Tok} (F : Fun K "place_read" "place_read" s_place_read f fd) (T : Txt K mg C) (hM : mg "MOST_FIGURES" = some (.int 60 tm)) (DF : Def P w K mg base "figures_of" ["text"] 1 spFigures) : FnOk P w K mg base CX0 2 f fd ["text"] spPlace := by
  refine F.ok sc_place_read (fun vs H Q E h => ?_) (fun cdv A outer s H vs Q E hr h => ?_)
  · obtain ⟨o, rfl, _⟩ := h
    rfl
  · obtain ⟨o, rfl, ho, k⟩ := h
    have hr1 : Room 1 _ := hr.mono (by decide)
    refine' ⟨_, pss_cons (ps_if (pt_cmpR op_eq (pv 0) pe_str (nomark _)) (pss_one (ps_ret pe_non)) pss_nil)
      (pss_cons (ps_if ?a pss_never pss_nil)
      (pss_cons (ps_tryN ?b)
      (pss_one (ps_ret (pv 1))))), ?_⟩
    case a =>
      refine' pt_cmpR op_gt ?x (pe_glob rfl hM (v := .int 60) ⟨tm, rfl⟩) (nomark _)
      case x => exact pe_callB call_len_str rfl T.len PySem.boot_len (pa_cons (pe_callD DF hr1 rfl (pa_cons (pv 0) pa_nil)) pa_nil)
    case b => exact fun xe' pn' => pss_one (ps_set (i := 1) sc_place_read.nd rfl (Or.inl rfl) (pe_callTy call_int_text rfl T.int boot_intT (pa_cons (pv 0) pa_nil)))
    refine ⟨_, rfl, rfl, _, rfl, ite2 (fun hc => ?_) (fun hc => ?_)⟩
    · have e := (end_none ho).mp (of_decide_eq_true hc)
      subst e
      exact k
    · cases o with
      | none => exact absurd (decide_eq_true rfl) hc
      | some a =>
        obtain ⟨h1, h2⟩ := ho.bd a rfl
        have N := num_is h1 h2
        have hp : 1 ≤ (numT a).length := by
          rw [← chs_len]
          exact List.length_pos_iff.mpr N.ne
        refine ⟨_, rfl, numT a, rfl, hp, by have := N.len; omega, fun y y1 y2 => ?_⟩
        have hy : y.length ≤ 60 := by
          by_cases e : (chs (numT a))[0]? = some 45
          · have := y1 e; have := N.len; omega
          · rw [y2 e]; exact N.pos e
        refine ⟨y, rfl, smallL (by omega), _, _, rfl, rfl, _, rfl, iteFd (by omega) ?_⟩
        exact ⟨_, rfl, numT a, a, rfl, N.read, by have := N.len; omega, _, rfl, k⟩
abbrev scV1 : Scope := { kind := .function, names := [(".0", .local), ("letter", .local)], isGenerator := false, isCoroutine := false, more := [] }
theorem cs_v1 : CScope (defScope s_is_value) scV1 ["text"] ["letter"] [] "letter" :=
  ⟨rfl, by decide +kernel, by decide +kernel, by decide +kernel, by decide +kernel, rfl, by decide +kernel, by decide +kernel, by decide +kernel, by decide +kernel⟩
theorem le_a {c : Nat} (h : 97 ≤ c) : (!decide (([c] : List Nat) < (("a" : Str).cps.toList))) = true := by
  have e : ("a" : Str).cps.toList = [97] := by decide +kernel
  rw [e]
  have : ¬ (([c] : List Nat) < [97]) := by
    intro z
    rcases List.cons_lt_cons_iff.mp z with z | ⟨_, z⟩
    · omega
    · simp at z
  rw [decide_eq_false this]
  rfl
theorem le_z {c : Nat} (h : c ≤ 122) : (!decide ((("z" : Str).cps.toList) < ([c] : List Nat))) = true := by
  have e : ("z" : Str).cps.toList = [122] := by decide +kernel
  rw [e]
  have : ¬ (([122] : List Nat) < [c]) := by
    intro z
    rcases List.cons_lt_cons_iff.mp z with z | ⟨_, z⟩
    · omega
    · simp at z
  rw [decide_eq_false this]
  rfl
def spIsValue : Sp := fun vs H Q _ => ∃ x : Str, vs = [.str x] ∧ Word x ∧ ∀ H', Same H H' → Q (.bl true) H'
theorem ok_is_value {f : Addr} {fd : FuncData} {tm : Tok} (F : Fun K "is_value" "is_value" s_is_value f fd) (T : Txt K mg C) (ea : mg "all" = none) (hM : mg "LONGEST_VALUE" = some (.int 12 tm)) : FnOk P w K mg base CX0 1 f fd ["text"] spIsValue := by
  refine F.ok sc_is_value (fun vs H Q E h => ?_) (fun cdv A outer s H vs Q E hr h => ?_)
  · obtain ⟨x, rfl, _⟩ := h
    rfl
  · obtain ⟨x, rfl, hw, k⟩ := h
    refine' ⟨_, pss_one (ps_ret (pe_and ?a (pe_one ?b))), ?_⟩
    case a => exact pe_chain op_le op_le pe_int (pe_callB call_len_str rfl T.len PySem.boot_len (pa_cons (pv 0) pa_nil)) (pe_glob rfl hM (v := .int 12) ⟨tm, rfl⟩)
    case b =>
      refine' pe_callB (call_all rfl) rfl ea boot_all (pa_cons ?c pa_nil)
      case c =>
        refine' pe_comp cs_v1 rfl rfl rfl ?y1 ?y2 ?y3
        case y1 => exact pi_str (pv 0)
        case y2 => exact fun _ _ _ _ _ => pf_nil
        case y3 => exact fun _ _ _ _ _ => pe_chain op_le_str op_le_str pe_str (pv 0) pe_str
    have hx := hw.2.2
    have hall : x.cps.all (· < 128) = true := by
      rw [← Array.all_toList, List.all_eq_true]
      intro c hc
      have := hx c hc
      exact decide_eq_true (by omega)
    refine ⟨_, rfl, x, rfl, smallL (by have := hw.2.1; omega), _, _, rfl, rfl, true, congrArg V.bl (decide_eq_true (by have := hw.1; omega)), iteT ⟨_, _, rfl, rfl, true, congrArg V.bl (decide_eq_true (by have := hw.2.1; omega)), iteT ?_⟩⟩
    refine ⟨_, rfl, x, rfl, hall, ?_⟩
    refine comp_any (js := []) (fun _ y _ => y = V.bl true) (fun _ _ _ _ h _ => h) (J := Its x) (n := x.length) (by have := hw.2.1; omega) (fun _ _ => Nat.le_refl _) (fun i _ hi _ => hi) (fun i y => ∃ c, x.cps.toList[i]? = some c ∧ y = .str ⟨#[c]⟩) (fun i H0 y H' _ _ h => h) ?he ?hq
    case he =>
      intro i y H2 Q' hi ⟨c, hc, e⟩ s2 q'
      subst e
      have hb := hx c (List.mem_of_getElem? hc)
      refine ⟨_, rfl, "a", ⟨#[c]⟩, rfl, rfl, true, congrArg V.bl (le_a hb.1), iteT ⟨⟨#[c]⟩, "z", rfl, rfl, ?_⟩⟩
      rw [le_z hb.2]
      exact q' _ _ Same.refl fun _ _ _ => rfl
    case hq =>
      intro l ys H' hl s' gl hyl hy
      have ey : ys = (List.replicate ys.length true).map V.bl := by
        rw [List.map_replicate]
        exact List.eq_replicate_of_mem fun y hy' => by
          obtain ⟨i, hi⟩ := List.getElem?_of_mem hy'
          exact hy i y hi
      refine ⟨l, List.replicate ys.length true, rfl, SqL.of (by rw [gl, ← ey]), ?_⟩
      have eall : (List.replicate ys.length true).all id = true := by simp
      rw [eall]
      exact k _ s'
def spRunRead : Sp := fun vs H Q _ => ∃ r : RunV, vs = [.str (pieceT r)] ∧ RunOk r ∧ ∀ (t : Addr) (H' : Hp), Same H H' → H t = none → H' t = some (.tup [optV r.1, optV r.2.1, r.2.2]) → Q (.ref t) H'
theorem ok_run_read {f : Addr} {fd : FuncData} (F : Fun K "run_read" "run_read" s_run_read f fd) (T : Txt K mg C) (DV : Def P w K mg base "is_value" ["text"] 1 spIsValue) (DP : Def P w K mg base "place_read" ["text"] 2 spPlace) : FnOk P w K mg base CX0 3 f fd ["text"] spRunRead := by
  refine F.ok sc_run_read (fun vs H Q E h => ?_) (fun cdv A outer s H vs Q E hr h => ?_)
  · obtain ⟨r, rfl, _⟩ := h
    rfl
  · obtain ⟨r, rfl, ro, k⟩ := h
    have hr1 : Room 1 _ := hr.mono (by decide)
    have hr2 : Room 2 _ := hr.mono (by decide)
    refine' ⟨_, pss_cons (ps_set (i := 1) sc_run_read.nd rfl (Or.inl rfl) ?a1)
      (pss_cons (ps_if ?a2 pss_never pss_nil)
      (pss_cons (ps_set (i := 2) sc_run_read.nd rfl (Or.inl rfl) ?b1)
      (pss_cons (ps_if ?b2 pss_never pss_nil)
      (pss_one (ps_ret ?c1))))), ?rd⟩
    case a1 => exact pe_bm PySem.F.plainAttrs_str PySem.F.slot_str_split PySem.F.type_str_split mt_split (pv 0) (pa_cons pe_str pa_nil)
    case a2 =>
      refine' PW.pt (pw_or ?x (pw_or1 (pt_not (pt_val ?y))))
      case x => exact pt_cmpR op_ne (pe_callB call_len_seq rfl T.len PySem.boot_len (pa_cons (pv 1) pa_nil)) pe_int (nomark _)
      case y => exact pe_callD DV hr1 rfl (pa_cons (pe_ix ix_list (pv 1) pe_int (fun _ _ => rfl)) pa_nil)
    case b1 => exact pe_bm PySem.F.plainAttrs_str PySem.F.slot_str_split PySem.F.type_str_split mt_split (pe_ix ix_list (pv 1) pe_int (fun _ _ => rfl)) (pa_cons pe_str pa_nil)
    case b2 => exact pt_cmpR op_ne (pe_callB call_len_seq rfl T.len PySem.boot_len (pa_cons (pv 2) pa_nil)) pe_int (nomark _)
    case c1 =>
      refine' pe_tup (pa_cons ?x (pa_cons ?y (pa_cons ?z pa_nil)))
      case x => exact pe_callD DP hr2 rfl (pa_cons (pe_ix ix_list (pv 2) pe_int (fun _ _ => rfl)) pa_nil)
      case y => exact pe_callD DP hr2 rfl (pa_cons (pe_ix ix_list (pv 2) pe_int (fun _ _ => rfl)) pa_nil)
      case z => exact pe_ix ix_list (pv 1) pe_int (fun _ _ => rfl)
    case rd =>
    obtain ⟨x, hx, ex⟩ := ro.word
    have lp := piece_len ro
    refine ⟨_, rfl, rfl, _, " ", rfl, rfl, by decide +kernel, smallL (by omega), fun l1 hl1 => ?_⟩
    rw [piece_split ro]
    have s1 : Same H (upd H l1 (.lst ([endT r.1 ++ ".." ++ endT r.2.1, wordOf r.2.2].map V.str))) := Same.new hl1
    have g1 : (upd H l1 (.lst ([endT r.1 ++ ".." ++ endT r.2.1, wordOf r.2.2].map V.str))) l1 = some (.lst [V.str (endT r.1 ++ ".." ++ endT r.2.1), V.str (wordOf r.2.2)]) := upd_same
    generalize upd H l1 (.lst ([endT r.1 ++ ".." ++ endT r.2.1, wordOf r.2.2].map V.str)) = H1 at s1 g1 ⊢
    have ew : wordOf r.2.2 = x := by rw [ex]; rfl
    rw [ew] at g1
    refine ⟨_, rfl, l1, _, rfl, .inl (SqL.of g1), rfl, false, rfl, iteF ⟨_, rfl, l1, _, _, .str x, rfl, rfl, SqL.of g1, atN (j := 1) rfl rfl, x, rfl, hx, fun H2 s2 => ⟨true, rfl, iteN (by decide) ?_⟩⟩⟩
    have g12 := s2 _ _ g1
    have le1 := end_len ro.e1
    have le2 := end_len ro.e2
    have hl2 : (endT r.1 ++ ".." ++ endT r.2.1).length ≤ 200 := by
      rw [Str.length_append, Str.length_append]
      have l4 : (".." : Str).length = 2 := by decide +kernel
      omega
    refine ⟨_, rfl, l1, _, _, .str (endT r.1 ++ ".." ++ endT r.2.1), rfl, rfl, SqL.of g12, atN (j := 0) rfl rfl, rfl, _, "..", rfl, rfl, by decide +kernel, smallL (by omega), fun l2 hl2' => ?_⟩
    rw [ends_split ro.e1 ro.e2]
    have s3 : Same H2 (upd H2 l2 (.lst ([endT r.1, endT r.2.1].map V.str))) := Same.new hl2'
    have g2 : (upd H2 l2 (.lst ([endT r.1, endT r.2.1].map V.str))) l2 = some (.lst [V.str (endT r.1), V.str (endT r.2.1)]) := upd_same
    generalize upd H2 l2 (.lst ([endT r.1, endT r.2.1].map V.str)) = H3 at s3 g2 ⊢
    refine ⟨_, rfl, l2, _, rfl, .inl (SqL.of g2), rfl, false, rfl, iteF ?_⟩
    refine ⟨_, rfl, l2, _, _, .str (endT r.1), rfl, rfl, SqL.of g2, atN (j := 0) rfl rfl, r.1, rfl, ro.e1, ?_⟩
    refine ⟨_, rfl, l2, _, _, .str (endT r.2.1), rfl, rfl, SqL.of g2, atN (j := 1) rfl rfl, r.2.1, rfl, ro.e2, ?_⟩
    refine ⟨_, rfl, l1, _, _, .str x, rfl, rfl, SqL.of (s3 _ _ g12), atN (j := 1) rfl rfl, smallL (by show 3 ≤ 2000; decide), fun t ht => ?_⟩
    have s03 : Same H H3 := (s1.trans s2).trans s3
    exact k t _ (Same.upd s03 (s03.free ht)) (s03.free ht) (by rw [upd_same, ex])
end
end Cut
set_option Elab.async false
set_option linter.all false
set_option maxRecDepth 100000
set_option maxHeartbeats 4000000
namespace Cut
open PySem L2 PyProof.Rows
section
variable {P : Program} {w : World} {K : PySem.W.Frag} {mg : Str → Option Value} {base : Heap} {C : Addr}
def RunsAt (H : Hp) (l : Addr) (rs : List RunV) : Prop := ∃ ts : List Addr, H l = some (.lst (ts.map V.ref)) ∧ ts.length = rs.length ∧ ∀ (j : Nat) (t : Addr) (r : RunV), ts[j]? = some t → rs[j]? = some r → H t = some (.tup [optV r.1, optV r.2.1, r.2.2])
theorem RunsAt.same {H H' : Hp} {l : Addr} {rs : List RunV} (h : RunsAt H l rs) (s : Same H H') : RunsAt H' l rs :=
  let ⟨ts, h1, h2, h3⟩ := h
  ⟨ts, s _ _ h1, h2, fun j t r e1 e2 => s _ _ (h3 j t r e1 e2)⟩
def spOrder : Sp := fun vs H Q _ => ∃ (l : Addr) (rs : List RunV), vs = [.ref l] ∧ RunsAt H l rs ∧ (∀ r ∈ rs, RunOk r) ∧ (∀ (j : Nat) (x y : RunV), rs[j]? = some x → rs[j + 1]? = some y → Next x y) ∧ rs.length ≤ 100 ∧ ∀ H', Same H H' → Q .non H'
theorem ok_order {f : Addr} {fd : FuncData} (F : Fun K "check_order" "check_order" s_check_order f fd) (zz : mg "zip" = none) : FnOk P w K mg base CX0 1 f fd ["found"] spOrder := by
  refine F.ok sc_check_order (fun vs H Q E h => ?_) (fun cdv A outer s H vs Q E hr h => ?_)
  · obtain ⟨l, rs, rfl, _⟩ := h
    rfl
  · obtain ⟨l, rs, rfl, ⟨ts, gl, htl, ht⟩, hok, hnx, hlen, k⟩ := h
    refine' ⟨_, pss_cons (ps_for PassesOwn.never rfl (pi_list (pv 0)) (pg_tup rfl (pgs_cons (pg_name (i := 1) sc_check_order.nd rfl (Or.inl rfl)) (pgs_cons (pg_name (i := 2) sc_check_order.nd rfl (Or.inl rfl)) (pgs_cons (pg_name (i := 3) sc_check_order.nd rfl (Or.inl rfl)) pgs_nil)))) (pss_one (ps_if ?a pss_never pss_nil)))
      (pss_one (ps_for PassesOwn.never rfl ?b1 (pg_tup rfl (pgs_cons (pg_name (i := 4) sc_check_order.nd rfl (Or.inl rfl)) (pgs_cons (pg_name (i := 5) sc_check_order.nd rfl (Or.inl rfl)) pgs_nil))) (pss_one (ps_if ?b2 pss_never pss_nil)))), ?rd⟩
    case a => exact PW.pt (pw_and (pt_cmp (pc_notN (pv 1))) (pw_and (pt_cmp (pc_notN (pv 2))) (pw_and1 (pt_cmpR op_le (pv 2) (pv 1) (nomark _)))))
    case b1 => exact pi_zip rfl zz (pa_cons (pv 0) (pa_cons (pe_slice sl_list (pv 0) (po_some pe_int) po_none) pa_nil))
    case b2 =>
      refine' PW.pt (pw_or ?x1 (pw_or ?x2 (pw_or1 ?x3)))
      case x1 => exact pt_cmp (pc_isN (pe_ix ix_tup (pv 4) pe_int (fun _ _ => rfl)))
      case x2 => exact pt_cmp (pc_isN (pe_ix ix_tup (pv 5) pe_int (fun _ _ => rfl)))
      case x3 => exact pt_cmpR op_lt (pe_ix ix_tup (pv 5) pe_int (fun _ _ => rfl)) (pe_ix ix_tup (pv 4) pe_int (fun _ _ => rfl)) (nomark _)
    case rd =>
    refine ⟨_, rfl, l, rfl, ⟨_, SqL.of gl⟩, ?_⟩
    refine for_list (K := K) (a := l) (xs := ts.map V.ref) (fun i σ H' => H' = H ∧ ∃ y1 y2 y3 : Option V, σ = [some (.ref l), y1, y2, y3, none, none]) ⟨rfl, none, none, none, rfl⟩ (fun i σ H' _ ⟨e, _⟩ => by rw [e]; exact SqL.of gl) ?_ ?_
    · rintro i y σ H' hi ⟨rfl, y1, y2, y3, rfl⟩
      rw [List.getElem?_map] at hi
      obtain ⟨t, hti, rfl⟩ := Option.map_eq_some_iff.mp hi
      have hil : i < rs.length := by rw [← htl]; exact (List.getElem?_eq_some_iff.mp hti).1
      have hri : rs[i]? = some (rs[i]'hil) := List.getElem?_eq_getElem _
      generalize rs[i]'hil = r at hri
      have gt := ht i t r hti hri
      have ro := hok r (List.mem_of_getElem? hri)
      refine ⟨t, _, rfl, SqT.of gt, rfl, _, _, rfl, _, _, rfl, _, _, rfl, rfl, ?_⟩
      obtain ⟨a, b, c⟩ := r
      cases a with
      | none => exact ⟨_, rfl, false, rfl, iteF (iteF ⟨rfl, _, _, _, rfl⟩)⟩
      | some a =>
        cases b with
        | none => exact ⟨_, rfl, true, rfl, iteT ⟨_, rfl, false, rfl, iteF (iteF ⟨rfl, _, _, _, rfl⟩)⟩⟩
        | some b =>
          have hlt := ro.lt a b rfl rfl
          exact ⟨_, rfl, true, rfl, iteT ⟨_, rfl, true, rfl, iteT ⟨_, rfl, _, rfl, _, _, rfl, rfl, _, rfl, iteFd (by omega) ⟨rfl, _, _, _, rfl⟩⟩⟩⟩
    · rintro σ H' ⟨rfl, y1, y2, y3, rfl⟩
      have ecut : cutV (ts.map V.ref) (some 1) none = (ts.drop 1).map V.ref := by
        rw [show (1 : Int) = ((1 : Nat) : Int) from rfl, cut_from, List.map_drop]
      refine ⟨_, rfl, _, rfl, _, rfl, l, _, rfl, SqL.of gl, fun sl hsl => ?_⟩
      rw [ecut]
      have s1 : Same H' (upd H' sl (.lst ((ts.drop 1).map V.ref))) := Same.new hsl
      have gsl : (upd H' sl (.lst ((ts.drop 1).map V.ref))) sl = some (.lst ((ts.drop 1).map V.ref)) := upd_same
      generalize upd H' sl (.lst ((ts.drop 1).map V.ref)) = H1 at s1 gsl ⊢
      refine ⟨l, sl, _, _, rfl, SqL.of (s1 _ _ gl), SqL.of gsl, ?_⟩
      refine for_zip (K := K) (a := l) (b := sl) (xs := ts.map V.ref) (ys := (ts.drop 1).map V.ref) _ rfl (fun i σ H2 => Same H1 H2 ∧ ∃ y1 y2 y3 y4 y5 : Option V, σ = [some (.ref l), y1, y2, y3, y4, y5]) ⟨Same.refl, _, _, _, _, _, rfl⟩ (fun i σ H2 _ ⟨s2, _⟩ => ⟨SqL.of (s2 _ _ (s1 _ _ gl)), SqL.of (s2 _ _ gsl)⟩) ?_ ?_
      · rintro i x y t σ H2 hx hy hn ⟨s2, z1, z2, z3, z4, z5, rfl⟩
        rw [List.getElem?_map] at hx hy
        obtain ⟨ta, hta, rfl⟩ := Option.map_eq_some_iff.mp hx
        obtain ⟨tb, htb, rfl⟩ := Option.map_eq_some_iff.mp hy
        rw [List.getElem?_drop, Nat.add_comm 1 i] at htb
        have hil : i + 1 < rs.length := by rw [← htl]; exact (List.getElem?_eq_some_iff.mp htb).1
        have hr1 : rs[i]? = some (rs[i]'(by omega)) := List.getElem?_eq_getElem _
        have hr2 : rs[i + 1]? = some (rs[i + 1]'hil) := List.getElem?_eq_getElem _
        generalize rs[i]'(by omega) = ra at hr1
        generalize rs[i + 1]'hil = rb at hr2
        obtain ⟨c, c', e1, e2, hcc⟩ := hnx i ra rb hr1 hr2
        have s3 : Same H2 (upd H2 t (.tup [.ref ta, .ref tb])) := Same.new hn
        have gt : (upd H2 t (.tup [.ref ta, .ref tb])) t = some (.tup [.ref ta, .ref tb]) := upd_same
        have ga := (s2.trans s3) _ _ (s1 _ _ (ht i ta ra hta hr1))
        have gb := (s2.trans s3) _ _ (s1 _ _ (ht (i + 1) tb rb htb hr2))
        rw [e1] at ga
        rw [e2] at gb
        generalize upd H2 t (.tup [.ref ta, .ref tb]) = H3 at s3 gt ga gb ⊢
        refine ⟨t, _, rfl, SqT.of gt, rfl, _, _, rfl, _, _, rfl, rfl, ?_⟩
        refine ⟨_, rfl, ta, _, _, .int c, rfl, rfl, SqT.of ga, atN (j := 1) rfl rfl, false, rfl, iteF ⟨_, rfl, tb, _, _, .int c', rfl, rfl, SqT.of gb, atN (j := 0) rfl rfl, false, rfl, iteF ?_⟩⟩
        exact ⟨_, rfl, tb, _, _, .int c', rfl, rfl, SqT.of gb, atN (j := 0) rfl rfl, _, rfl, ta, _, _, .int c, rfl, rfl, SqT.of ga, atN (j := 1) rfl rfl, _, _, rfl, rfl, _, rfl, iteFd (by omega) ⟨s2.trans s3, _, _, _, _, _, rfl⟩⟩
      · rintro σ H2 ⟨s2, z1, z2, z3, z4, z5, rfl⟩
        exact k _ (s1.trans s2)
def spThrough (C : Addr) : Sp := fun vs H Q _ => ∃ (l : Addr) (v : V) (ps : List (Int × V)), vs = [.ref l] ∧ RunsAt H l (runsOf none v ps) ∧ Form v ps ∧ BdP ps ∧ ps.length ≤ 70 ∧ ∀ (p : Addr) (H' : Hp), Same H H' → LineNew C H H' p v ps → Q (.ref p) H'
theorem step_len (st : V × List (Int × V)) (r : RunV) : (stepR st r).2.length ≤ st.2.length + 2 := by
  unfold stepR
  obtain ⟨a, b, c⟩ := r
  cases a <;> cases b <;> simp
theorem fold_len : ∀ (rs : List RunV) (st : V × List (Int × V)), (rs.foldl stepR st).2.length ≤ st.2.length + 2 * rs.length
  | [], st => Nat.le_refl _
  | r :: rs, st => by
    have h1 := fold_len rs (stepR st r)
    have h2 := step_len st r
    rw [List.foldl_cons, List.length_cons]
    omega
theorem holds_app (v : V) (ps : List (Int × V)) (q : Int × V) : holdsV v (ps ++ [q]) = holdsV v ps ++ [q.2] := by
  show v :: (ps ++ [q]).map (·.2) = (v :: ps.map (·.2)) ++ [q.2]
  rw [List.map_append]; rfl
theorem cuts_app (ps : List (Int × V)) (q : Int × V) : cutsV (ps ++ [q]) = cutsV ps ++ [.int q.1] := by
  unfold cutsV
  rw [List.map_append]; rfl
def endQ (qs : List (Int × V)) : Option Int → List (Int × V)
  | none => qs
  | some c => qs ++ [(c, .non)]
def startH (h0 u : V) : Option Int → V
  | none => u
  | some _ => h0
def startQ (qs : List (Int × V)) (u : V) : Option Int → List (Int × V)
  | none => []
  | some c => qs ++ [(c, u)]
theorem step_eq (h0 u : V) (qs : List (Int × V)) (a e : Option Int) : stepR (h0, qs) (a, e, u) = (startH h0 u a, endQ (startQ qs u a) e) := by
  cases a <;> cases e <;> rfl
def tStart9 : TS := fun D σ H => ∃ (l lc lh : Addr) (a : Option Int) (e u h0 : V) (qs : List (Int × V)), σ = [some (.ref l), some (.ref lc), some (.ref lh), some (optV a), some e, some u] ∧ H lc = some (.lst (cutsV qs)) ∧ H lh = some (.lst (holdsV h0 qs)) ∧ lc ≠ lh ∧ qs.length ≤ 200 ∧ (a = none → qs = []) ∧
  ∀ (lh' : Addr) (H' : Hp), (lh' = lh ∨ H lh' = none) → lc ≠ lh' → (∀ b o, b ≠ lc → b ≠ lh → H b = some o → H' b = some o) → H' lc = some (.lst (cutsV (startQ qs u a))) → H' lh' = some (.lst (holdsV (startH h0 u a) (startQ qs u a))) → D.nx [some (.ref l), some (.ref lc), some (.ref lh'), some (optV a), some e, some u] H'
def tEnd9 : TS := fun D σ H => ∃ (l lc lh : Addr) (a : V) (e : Option Int) (u h0 : V) (qs : List (Int × V)), σ = [some (.ref l), some (.ref lc), some (.ref lh), some a, some (optV e), some u] ∧ H lc = some (.lst (cutsV qs)) ∧ H lh = some (.lst (holdsV h0 qs)) ∧ lc ≠ lh ∧ qs.length ≤ 300 ∧
  ∀ (H' : Hp), (∀ b o, b ≠ lc → b ≠ lh → H b = some o → H' b = some o) → H' lc = some (.lst (cutsV (endQ qs e))) → H' lh = some (.lst (holdsV h0 (endQ qs e))) → D.nx [some (.ref l), some (.ref lc), some (.ref lh), some a, some (optV e), some u] H'
theorem cuts_len (qs : List (Int × V)) : (cutsV qs).length = qs.length := by unfold cutsV; rw [List.length_map]
theorem holds_len (h : V) (qs : List (Int × V)) : (holdsV h qs).length = qs.length + 1 := by show (qs.map (·.2)).length + 1 = _; rw [List.length_map]
theorem ok_through {f : Addr} {fd : FuncData} (F : Fun K "line_through" "line_through" s_line_through f fd) (DL : Def P w K mg base "line_of" ["cuts", "holds"] 3 (spLineOf K C)) : FnOk P w K mg base CX0 4 f fd ["found"] (spThrough C) := by
  refine F.ok sc_line_through (fun vs H Q E h => ?_) (fun cdv A outer s H vs Q E hr h => ?_)
  · obtain ⟨l, v, ps, rfl, _⟩ := h
    rfl
  · obtain ⟨l, v, ps, rfl, hR, hF, hb, hlen, k⟩ := h
    obtain ⟨ts, gl, htl, ht⟩ := id hR
    have hrl : (runsOf none v ps).length ≤ 71 := by
      refine Nat.le_trans (List.length_filter_le ..) ?_
      rw [all_len]; omega
    refine' ⟨_, pss_cons (ps_set (i := 1) sc_line_through.nd rfl (Or.inl rfl) (pe_lst pa_nil))
      (pss_cons (ps_set (i := 2) sc_line_through.nd rfl (Or.inl rfl) (pe_lst (pa_cons pe_non pa_nil)))
      (pss_cons (ps_for PassesOwn.never rfl (pi_list (pv 0)) (pg_tup rfl (pgs_cons (pg_name (i := 3) sc_line_through.nd rfl (Or.inl rfl)) (pgs_cons (pg_name (i := 4) sc_line_through.nd rfl (Or.inl rfl)) (pgs_cons (pg_name (i := 5) sc_line_through.nd rfl (Or.inl rfl)) pgs_nil))))
        (pss_cons (ps_imp (t' := tStart9) (ps_if (pt_cmp (pc_isN (pv 3))) (pss_one (ps_set (i := 2) sc_line_through.nd rfl (Or.inl rfl) (pe_lst (pa_cons (pv 5) pa_nil)))) (pss_cons (ps_expr ?a1) (pss_one (ps_expr ?a2)))) ?i1)
        (pss_one (ps_imp (t' := tEnd9) (ps_if (pt_cmp (pc_notN (pv 4))) (pss_cons (ps_expr ?a3) (pss_one (ps_expr ?a4))) pss_nil) ?i2))))
      (pss_one (ps_ret (pe_callD DL hr rfl (pa_cons (pv 1) (pa_cons (pv 2) pa_nil))))))), ?rd⟩
    case a1 => exact pe_bm PySem.F.plainAttrs_list PySem.F.slot_list_append PySem.F.type_list_append mt_append (pv 1) (pa_cons (pv 3) pa_nil)
    case a2 => exact pe_bm PySem.F.plainAttrs_list PySem.F.slot_list_append PySem.F.type_list_append mt_append (pv 2) (pa_cons (pv 5) pa_nil)
    case a3 => exact pe_bm PySem.F.plainAttrs_list PySem.F.slot_list_append PySem.F.type_list_append mt_append (pv 1) (pa_cons (pv 4) pa_nil)
    case a4 => exact pe_bm PySem.F.plainAttrs_list PySem.F.slot_list_append PySem.F.type_list_append mt_append (pv 2) (pa_cons pe_non pa_nil)
    case i1 =>
      rintro D σ H' ⟨l, lc, lh, a, e, u, h0, qs, rfl, gc, gh, nch, hql, ha, kk⟩
      cases a with
      | none =>
        obtain rfl := ha rfl
        refine ⟨_, rfl, true, rfl, iteT ⟨_, rfl, smallL (by show 1 ≤ 2000; decide), fun lh' hlh' => ?_⟩⟩
        exact kk lh' _ (.inr hlh') (ne_of_none gc hlh') (fun b o _ _ e => by rw [upd_ne (ne_of_none e hlh')]; exact e) (by rw [upd_ne (ne_of_none gc hlh')]; exact gc) upd_same
      | some c =>
        refine ⟨_, rfl, false, rfl, iteF ⟨_, rfl, .inl ⟨rfl, _, SqL.of gc⟩, _, rfl, lc, _, _, rfl, rfl, gc, small (by rw [cuts_len]; omega), ?_⟩⟩
        have gh2 : (upd H' lc (.lst (cutsV qs ++ [optV (some c)]))) lh = some (.lst (holdsV h0 qs)) := by rw [upd_ne nch.symm]; exact gh
        refine ⟨_, rfl, .inl ⟨rfl, _, SqL.of gh2⟩, _, rfl, lh, _, _, rfl, rfl, gh2, small (by rw [holds_len]; omega), ?_⟩
        refine kk lh _ (.inl rfl) nch (fun b o n1 n2 e => by rw [upd_ne n2, upd_ne n1]; exact e) ?_ ?_
        · rw [upd_ne nch, upd_same]
          show _ = some (HO.lst (cutsV (qs ++ [(c, u)])))
          rw [cuts_app]; rfl
        · rw [upd_same]
          show _ = some (HO.lst (holdsV h0 (qs ++ [(c, u)])))
          rw [holds_app]
    case i2 =>
      rintro D σ H' ⟨l, lc, lh, a, e, u, h0, qs, rfl, gc, gh, nch, hql, kk⟩
      cases e with
      | none => exact ⟨_, rfl, false, rfl, iteF (kk H' (fun b o _ _ e => e) gc gh)⟩
      | some c =>
        refine ⟨_, rfl, true, rfl, iteT ⟨_, rfl, .inl ⟨rfl, _, SqL.of gc⟩, _, rfl, lc, _, _, rfl, rfl, gc, small (by rw [cuts_len]; omega), ?_⟩⟩
        have gh2 : (upd H' lc (.lst (cutsV qs ++ [optV (some c)]))) lh = some (.lst (holdsV h0 qs)) := by rw [upd_ne nch.symm]; exact gh
        refine ⟨_, rfl, .inl ⟨rfl, _, SqL.of gh2⟩, lh, _, _, rfl, rfl, gh2, small (by rw [holds_len]; omega), ?_⟩
        refine kk _ (fun b o n1 n2 e => by rw [upd_ne n2, upd_ne n1]; exact e) ?_ ?_
        · rw [upd_ne nch, upd_same]
          show _ = some (HO.lst (cutsV (qs ++ [(c, V.non)])))
          rw [cuts_app]; rfl
        · rw [upd_same]
          show _ = some (HO.lst (holdsV h0 (qs ++ [(c, V.non)])))
          rw [holds_app]
    case rd =>
    refine ⟨Nat.zero_le _, fun lc hlc => ?_⟩
    have s1 : Same H (upd H lc (.lst [])) := Same.new hlc
    have glc : (upd H lc (.lst [])) lc = some (.lst []) := upd_same
    generalize upd H lc (.lst []) = H1 at s1 glc ⊢
    refine ⟨smallL (by show 1 ≤ 2000; decide), fun lh hlh => ?_⟩
    have hlh0 : H lh = none := s1.free hlh
    have s2 : Same H1 (upd H1 lh (.lst [.non])) := Same.new hlh
    have glh : (upd H1 lh (.lst [.non])) lh = some (.lst [.non]) := upd_same
    have nch : lc ≠ lh := ne_of_none glc hlh
    have glc2 := s2 _ _ glc
    generalize upd H1 lh (.lst [.non]) = H2 at s2 glh glc2 ⊢
    have s02 := s1.trans s2
    refine ⟨_, rfl, l, rfl, ⟨_, SqL.of (s02 _ _ gl)⟩, ?_⟩
    refine for_list (K := K) (a := l) (xs := ts.map V.ref) (fun i σ H' => ∃ (lh : Addr) (y3 y4 y5 : Option V), σ = [some (.ref l), some (.ref lc), some (.ref lh), y3, y4, y5] ∧ Same H H' ∧ H lh = none ∧ lc ≠ lh ∧
      H' lc = some (.lst (cutsV (((runsOf none v ps).take i).foldl stepR (.non, [])).2)) ∧ H' lh = some (.lst (holdsV (((runsOf none v ps).take i).foldl stepR (.non, [])).1 (((runsOf none v ps).take i).foldl stepR (.non, [])).2))) ⟨lh, none, none, none, rfl, s02, hlh0, nch, glc2, glh⟩ (fun i σ H' _ ⟨_, _, _, _, _, s', _⟩ => SqL.of (s' _ _ gl)) ?_ ?_
    · rintro i y σ H' hi ⟨lh, y3, y4, y5, rfl, s3, hlh0, nch, gc, gh⟩
      rw [List.getElem?_map] at hi
      obtain ⟨t, hti, rfl⟩ := Option.map_eq_some_iff.mp hi
      have hil : i < (runsOf none v ps).length := by rw [← htl]; exact (List.getElem?_eq_some_iff.mp hti).1
      have hri : (runsOf none v ps)[i]? = some ((runsOf none v ps)[i]'hil) := List.getElem?_eq_getElem _
      generalize (runsOf none v ps)[i]'hil = r at hri
      have gt := s3 _ _ (ht i t r hti hri)
      have hst : ((runsOf none v ps).take (i + 1)).foldl stepR (.non, []) = stepR (((runsOf none v ps).take i).foldl stepR (.non, [])) r := by
        rw [List.take_add_one, hri, List.foldl_append]; rfl
      have hsl := fold_len ((runsOf none v ps).take i) (.non, [])
      have hs0 : r.1 = none → (((runsOf none v ps).take i).foldl stepR (.non, [])).2 = [] := fun e => by
        rw [runs_none hF i r hri e]; rfl
      rw [hst]
      generalize ((runsOf none v ps).take i).foldl stepR (V.non, []) = st at gc gh hsl hs0
      have hsl2 : st.2.length ≤ 200 := by
        have : ((runsOf none v ps).take i).length ≤ 71 := by rw [List.length_take]; omega
        simp at hsl
        omega
      obtain ⟨h0, qs⟩ := st
      obtain ⟨a, e, u⟩ := r
      rw [step_eq]
      refine ⟨t, _, rfl, SqT.of gt, rfl, _, _, rfl, _, _, rfl, _, _, rfl, rfl, ?_⟩
      refine ⟨l, lc, lh, a, _, u, h0, qs, rfl, gc, gh, nch, hsl2, hs0, fun lh' H4 hlh' nch' s4 gc4 gh4 => ?_⟩
      have s04 : Same H H4 := fun b o e => s4 b o (ne_of_none e hlc) (ne_of_none e hlh0) (s3 _ _ e)
      have hlh4 : H lh' = none := by
        rcases hlh' with e | e
        · rw [e]; exact hlh0
        · exact s3.free e
      have hq1 : (startQ qs u a).length ≤ 300 := by
        cases a with
        | none => exact Nat.zero_le _
        | some c => show (qs ++ [(c, u)]).length ≤ 300; rw [List.length_append]; exact Nat.le_trans (Nat.add_le_add_right hsl2 1) (by decide)
      refine ⟨l, lc, lh', _, e, u, _, _, rfl, gc4, gh4, nch', hq1, fun H5 s5 gc5 gh5 => ?_⟩
      exact ⟨lh', _, _, _, rfl, fun b o e => s5 b o (ne_of_none e hlc) (ne_of_none e hlh4) (s04 b o e), hlh4, nch', gc5, gh5⟩
    · rintro σ H' ⟨lh, y3, y4, y5, rfl, s3, hlh0, nch, gc, gh⟩
      rw [List.take_of_length_le (by rw [List.length_map]; omega), fold_none] at gc gh
      refine ⟨_, rfl, _, rfl, lc, lh, v, t0 v ps, rfl, SqL.of gc, SqL.of gh, t0_hv hF.hh, by have := t0_len ps v; omega, fun p H8 s8 ln => ?_⟩
      rw [t0_form hF] at ln
      exact k p H8 (s3.trans s8) (ln.from s3)
end
end Cut
set_option Elab.async false
set_option linter.all false
set_option maxRecDepth 100000
set_option maxHeartbeats 4000000
namespace Cut
open PySem L2 PyProof.Rows
section
variable {P : Program} {w : World} {K : PySem.W.Frag} {mg : Str → Option Value} {base : Heap} {C : Addr}
def ToldH (H : Hp) (t : Addr) (v : V) (ps : List (Int × V)) : Prop := ∃ a b, H t = some (.tup [.ref a, .ref b]) ∧ H a = some (.lst (cutsV ps)) ∧ H b = some (.lst (holdsV v ps))
theorem ToldH.same {H H' : Hp} {t : Addr} {v : V} {ps : List (Int × V)} (h : ToldH H t v ps) (s : Same H H') : ToldH H' t v ps :=
  let ⟨a, b, h1, h2, h3⟩ := h
  ⟨a, b, s _ _ h1, s _ _ h2, s _ _ h3⟩
theorem ToldH.at {H : Hp} {t : Addr} {v : V} {ps : List (Int × V)} (h : ToldH H t v ps) : ToldAt K H t v ps :=
  let ⟨a, b, h1, h2, h3⟩ := h
  ⟨a, b, SqT.of h1, SqL.of h2, SqL.of h3⟩
abbrev scR1 : Scope := { kind := .function, names := [(".0", .local), ("part", .local), ("run_read", .globalImplicit)], isGenerator := false, isCoroutine := false, more := [] }
theorem cs_r1 : CScope (defScope s_read) scR1 ["text", "found", "line"] ["part"] [] "part" :=
  ⟨rfl, by decide +kernel, by decide +kernel, by decide +kernel, by decide +kernel, rfl, by decide +kernel, by decide +kernel, by decide +kernel, by decide +kernel⟩
theorem join_len2 {zs : List Str} {n : Nat} (hn : zs.length ≤ n) (h : ∀ z ∈ zs, z.length ≤ 137) : (Txt.join ", " zs).length ≤ n * 139 := by
  have e := join_small hn h
  have e2 := StrLaws.join_length_le ", " zs
  show (Builtin.Str.glued ", " zs).length ≤ _
  rw [StrLaws.glued_eq_join]
  omega
theorem join_ne {z : Str} {zs : List Str} (h : 1 ≤ z.length) : Txt.join ", " (z :: zs) ≠ "" := fun e => by
  have e1 : Str.join ", " (z :: zs) = "" := by rw [← StrLaws.glued_eq_join]; exact e
  have e2 : (Str.join ", " (z :: zs)).length = 0 := by rw [e1]; decide +kernel
  cases zs with
  | nil => have e3 : z.length = 0 := e2; omega
  | cons y r =>
    have e3 : (z ++ ", " ++ Str.join ", " (y :: r)).length = 0 := e2
    rw [Str.length_append, Str.length_append] at e3
    omega
theorem tups_of : ∀ {ys : List V} {PP : Nat → Addr → Prop}, (∀ (i : Nat) (y : V), ys[i]? = some y → ∃ t : Addr, y = .ref t ∧ PP i t) → ∃ ts : List Addr, ys = ts.map V.ref ∧ ∀ (i : Nat) (t : Addr), ts[i]? = some t → PP i t
  | [], PP, _ => ⟨[], rfl, fun i q e => by simp at e⟩
  | y :: ys, PP, h => by
    obtain ⟨q, rfl, hq⟩ := h 0 y rfl
    obtain ⟨ls, rfl, hl⟩ := tups_of (ys := ys) (PP := fun i q => PP (i + 1) q) fun i y e => h (i + 1) y (by simpa using e)
    refine ⟨q :: ls, rfl, fun i q' e => ?_⟩
    cases i with
    | zero => cases e; exact hq
    | succ i => exact hl i q' (by simpa using e)
def spRead (C : Addr) : Sp := fun vs H Q _ => ∃ (v : V) (ps : List (Int × V)), vs = [.str (textOf v ps)] ∧ Form v ps ∧ BdP ps ∧ ps.length ≤ 70 ∧ ∀ (p : Addr) (H' : Hp), Same H H' → LineNew C H H' p v ps → Q (.ref p) H'
theorem ok_read {f : Addr} {fd : FuncData} (F : Fun K "read" "read" s_read f fd) (T : Txt K mg C) (DE : Def P w K mg base "empty_line" [] 4 (spEmpty C)) (DR : Def P w K mg base "run_read" ["text"] 3 spRunRead) (DO : Def P w K mg base "check_order" ["found"] 1 spOrder) (DT : Def P w K mg base "line_through" ["found"] 4 (spThrough C)) (DS : Def P w K mg base "shown" ["line"] 2 (spShown C)) :
    FnOk P w K mg base CX0 5 f fd ["text"] (spRead C) := by
  refine F.ok sc_read (fun vs H Q E h => ?_) (fun cdv A outer s H vs Q E hr h => ?_)
  · obtain ⟨v, ps, rfl, _⟩ := h
    rfl
  · obtain ⟨v, ps, rfl, hF, hb, hlen, k⟩ := h
    have hr1 : Room 1 _ := hr.mono (by decide)
    have hr2 : Room 2 _ := hr.mono (by decide)
    have hr3 : Room 3 _ := hr.mono (by decide)
    refine' ⟨_, pss_cons (ps_if (pt_cmpR op_eq (pv 0) pe_str (nomark _)) (pss_one (ps_ret (pe_callD0 DE hr rfl))) pss_nil)
      (pss_cons (ps_setC (i := 1) sc_read.nd rfl (Or.inl rfl) cs_r1 rfl rfl rfl ?a0 (fun _ _ _ _ _ => pf_nil) ?a1)
      (pss_cons (ps_expr (pe_callD DO hr1 rfl (pa_cons (pv 1) pa_nil)))
      (pss_cons (ps_set (i := 2) sc_read.nd rfl (Or.inl rfl) (pe_callD DT hr rfl (pa_cons (pv 1) pa_nil)))
      (pss_cons (ps_if (pt_cmpR op_ne (pe_callD DS hr2 rfl (pa_cons (pv 2) pa_nil)) (pv 0) (nomark _)) pss_never pss_nil)
      (pss_one (ps_ret (pv 2))))))), ?rd⟩
    case a0 => exact pi_list (pe_bm PySem.F.plainAttrs_str PySem.F.slot_str_split PySem.F.type_str_split mt_split (pv 0) (pa_cons pe_str pa_nil))
    case a1 => exact fun _ _ _ _ _ => pe_callD DR hr3 rfl (pa_cons (pv 0) pa_nil)
    case rd =>
    have hrl : (runsOf none v ps).length ≤ 71 := by
      refine Nat.le_trans (List.length_filter_le ..) ?_
      rw [all_len]; omega
    have ro := runs_ok hF hb
    refine ⟨_, rfl, rfl, _, rfl, ite2 (fun hc => ?_) (fun hc => ?_)⟩
    · have e : textOf v ps = "" := V.str.inj (of_decide_eq_true hc)
      have hne : runsOf none v ps = [] := by
        cases e2 : runsOf none v ps with
        | nil => rfl
        | cons r rs =>
          unfold textOf at e
          rw [e2, List.map_cons] at e
          exact absurd e (join_ne (by have := piece_pos (r := r); omega))
      obtain ⟨rfl, rfl⟩ := runs_empty hF hne
      exact ⟨rfl, fun p H' s' ln => k p H' s' ln⟩
    · have hne : runsOf none v ps ≠ [] := fun e => by
        refine hc (decide_eq_true ?_)
        unfold textOf
        rw [e]
        show V.str _ = V.str _
        congr 1
      have hl := join_len2 (zs := (runsOf none v ps).map pieceT) (n := 71) (by rw [List.length_map]; exact hrl) fun z hz => by
        obtain ⟨r, hr, rfl⟩ := List.mem_map.mp hz
        exact piece_len (ro r hr)
      refine ⟨_, rfl, rfl, _, ", ", rfl, rfl, by decide +kernel, Nat.le_trans (Nat.add_le_add_right hl 2) (by decide), fun l1 hl1 => ?_⟩
      have es : Txt.split (textOf v ps) ", " = (runsOf none v ps).map pieceT := text_split hne ro
      rw [es]
      have s1 : Same H (upd H l1 (.lst (((runsOf none v ps).map pieceT).map V.str))) := Same.new hl1
      have g1 : (upd H l1 (.lst (((runsOf none v ps).map pieceT).map V.str))) l1 = some (.lst (((runsOf none v ps).map pieceT).map V.str)) := upd_same
      generalize upd H l1 (.lst (((runsOf none v ps).map pieceT).map V.str)) = H1 at s1 g1 ⊢
      refine ⟨l1, rfl, ⟨_, SqL.of g1⟩, ?_⟩
      refine comp_anyL (js := []) (fun i y H => ∃ t : Addr, y = .ref t ∧ ∀ r, (runsOf none v ps)[i]? = some r → H t = some (.tup [optV r.1, optV r.2.1, r.2.2])) (fun i y H H' ⟨t, e1, e2⟩ s' => ⟨t, e1, fun r e => s' _ _ (e2 r e)⟩) (SqL.of g1) ?k1 ?k2 ?k3
      case k1 => rw [List.length_map, List.length_map]; omega
      case k2 =>
        intro i x H2 Q' hx s2 q'
        rw [List.getElem?_map, List.getElem?_map] at hx
        cases hri : (runsOf none v ps)[i]? with
        | none => rw [hri] at hx; cases hx
        | some r =>
          rw [hri] at hx
          cases hx
          refine ⟨_, rfl, r, rfl, ro r (List.mem_of_getElem? hri), fun t H3 s3 ht gt => ?_⟩
          refine q' _ _ s3 fun l' ⟨o, ho⟩ _ => ⟨t, rfl, fun r' e => ?_⟩
          rw [hri] at e
          cases e
          rw [hide_ne (ne_of_none ho ht).symm]
          exact gt
      case k3 =>
      intro lf ys H2 hlf s2 glf hyl hyp
      obtain ⟨ts, rfl, hts⟩ := tups_of (PP := fun i t => ∀ r, (runsOf none v ps)[i]? = some r → (hide lf H2) t = some (.tup [optV r.1, optV r.2.1, r.2.2])) hyp
      have hR : RunsAt H2 lf (runsOf none v ps) := by
        refine ⟨ts, glf, ?_, fun j t r e1 e2 => hide_same _ _ (hts j t e1 r e2)⟩
        rw [List.length_map, List.length_map, List.length_map] at hyl
        exact hyl
      have s02 := s1.trans s2
      refine ⟨_, rfl, lf, _, rfl, hR, ro, runs_next hF, by omega, fun H3 s3 => ?_⟩
      refine ⟨_, rfl, lf, v, ps, rfl, hR.same s3, hF, hb, hlen, fun p H4 s4 ln => ?_⟩
      refine ⟨_, rfl, p, v, ps, rfl, ln.at, hF, hb, hlen, fun H5 s5 => ?_⟩
      refine ⟨_, rfl, rfl, _, rfl, iteNS rfl ?_⟩
      have s03 := s02.trans s3
      have s05 := (s03.trans s4).trans s5
      obtain ⟨dx, a, b, n1, n2, n3, e1, e2, e3⟩ := ln.from s03
      exact ⟨_, rfl, k p H5 s05 ⟨dx, a, b, n1, n2, n3, s5 _ _ e1, s5 _ _ e2, s5 _ _ e3⟩⟩
def spEndText : Sp := fun vs H Q _ => ∃ o : Option Int, vs = [optV o] ∧ EndOk o ∧ Q (.str (endT o)) H
theorem ok_end_text {f : Addr} {fd : FuncData} (F : Fun K "_law_end_text" "_law_end_text" s_law_end_text f fd) (T : Txt K mg C) : FnOk P w K mg base CX0 1 f fd ["place"] spEndText := by
  refine F.ok sc_law_end_text (fun vs H Q E h => ?_) (fun cdv A outer s H vs Q E hr h => ?_)
  · obtain ⟨o, rfl, _⟩ := h
    rfl
  · obtain ⟨o, rfl, ho, k⟩ := h
    refine' ⟨_, pss_cons (ps_if (pt_cmp (pc_isN (pv 0))) (pss_one (ps_ret pe_str)) pss_nil) (pss_one (ps_ret (pe_callTy call_str_int rfl T.str boot_strT (pa_cons (pv 0) pa_nil)))), ?_⟩
    cases o with
    | none => exact ⟨_, rfl, true, rfl, iteT k⟩
    | some a =>
      obtain ⟨h1, h2⟩ := ho.bd a rfl
      exact ⟨_, rfl, false, rfl, iteF ⟨_, rfl, a, rfl, log_small h1 h2, k⟩⟩
def spLawText (K : PySem.W.Frag) : Sp := fun vs H Q _ => ∃ (t : Addr) (v : V) (ps : List (Int × V)), vs = [.ref t] ∧ ToldH H t v ps ∧ Form v ps ∧ BdP ps ∧ ps.length ≤ 70 ∧ ∀ H', Same H H' → Q (.str (textOf v ps)) H'
theorem ends_list (v : V) (ps : List (Int × V)) (i : Nat) (r : RunV) (h : (allRuns none v ps)[i]? = some r) : ((V.non :: cutsV ps) ++ [V.non])[i]? = some (optV r.1) ∧ ((V.non :: cutsV ps) ++ [V.non])[i + 1]? = some (optV r.2.1) := by
  have e1 : (V.non :: cutsV ps) = (allRuns none v ps).map fun r => optV r.1 := by
    have e : (allRuns none v ps).map (fun r => optV r.1) = ((allRuns none v ps).map (·.1)).map optV := by rw [List.map_map]; rfl
    rw [e, all_starts, List.map_cons, List.map_map]
    rfl
  have e2 : cutsV ps ++ [V.non] = (allRuns none v ps).map fun r => optV r.2.1 := by
    have e : (allRuns none v ps).map (fun r => optV r.2.1) = ((allRuns none v ps).map (·.2.1)).map optV := by rw [List.map_map]; rfl
    rw [e, all_ends, List.map_append, List.map_map]
    rfl
  constructor
  · rw [List.getElem?_append_left (by rw [e1, List.length_map]; exact (List.getElem?_eq_some_iff.mp h).1), e1, List.getElem?_map, h]; rfl
  · rw [List.cons_append, List.getElem?_cons_succ, e2, List.getElem?_map, h]; rfl
theorem ok_law_text {f : Addr} {fd : FuncData} (F : Fun K "_law_text" "_law_text" s_law_text f fd) (T : Txt K mg C) (DE : Def P w K mg base "_law_end_text" ["place"] 1 spEndText) : FnOk P w K mg base CX0 2 f fd ["form"] (spLawText K) := by
  refine F.ok sc_law_text (fun vs H Q E h => ?_) (fun cdv A outer s H vs Q E hr h => ?_)
  · obtain ⟨t, v, ps, rfl, _⟩ := h
    rfl
  · obtain ⟨t, v, ps, rfl, ⟨ca, ho, gt, gca, gho⟩, hF, hb, hlen, k⟩ := h
    have hr1 : Room 1 _ := hr.mono (by decide)
    refine' ⟨_, pss_cons (ps_set (i := 1) sc_law_text.nd rfl (Or.inl rfl) (pe_op op_cat (pe_op op_cat (pe_lst (pa_cons pe_non pa_nil)) (pe_ix ix_tup (pv 0) pe_int (fun _ _ => rfl))) (pe_lst (pa_cons pe_non pa_nil))))
      (pss_cons (ps_set (i := 2) sc_law_text.nd rfl (Or.inl rfl) (pe_lst pa_nil))
      (pss_cons (ps_for PassesOwn.never rfl (pi_range1 rfl T.range (pa_cons (pe_callB call_len_seq rfl T.len PySem.boot_len (pa_cons (pe_ix ix_tup (pv 0) pe_int (fun _ _ => rfl)) pa_nil)) pa_nil)) (pg_name (i := 3) sc_law_text.nd rfl (Or.inl rfl))
        (pss_one (ps_if ?a (pss_cons (ps_set (i := 4) sc_law_text.nd rfl (Or.inl rfl) ?b) (pss_one (ps_expr ?c))) pss_nil)))
      (pss_one (ps_ret ?d)))), ?rd⟩
    case a => exact pt_cmp (pc_notN (pe_ix ix_list (pe_ix ix_tup (pv 0) pe_int (fun _ _ => rfl)) (pv 3) (fun _ _ => rfl)))
    case b =>
      refine' pe_op op_add_str (pe_op op_add_str ?x pe_str) ?y
      case x => exact pe_callD DE hr1 rfl (pa_cons (pe_ix ix_list (pv 1) (pv 3) (fun _ _ => rfl)) pa_nil)
      case y => exact pe_callD DE hr1 rfl (pa_cons (pe_ix ix_list (pv 1) (pe_op op_add (pv 3) pe_int) (fun _ _ => rfl)) pa_nil)
    case c =>
      refine' pe_bm PySem.F.plainAttrs_list PySem.F.slot_list_append PySem.F.type_list_append mt_append (pv 2) (pa_cons ?x pa_nil)
      case x => exact pe_op op_add_str (pe_op op_add_str (pv 4) pe_str) (pe_ix ix_list (pe_ix ix_tup (pv 0) pe_int (fun _ _ => rfl)) (pv 3) (fun _ _ => rfl))
    case d => exact pe_bm PySem.F.plainAttrs_str PySem.F.slot_str_join PySem.F.type_str_join mt_join pe_str (pa_cons (pv 2) pa_nil)
    case rd =>
    have hcl : (cutsV ps).length = ps.length := by unfold cutsV; rw [List.length_map]
    refine ⟨smallL (by show 1 ≤ 2000; decide), fun l1 hl1 => ?_⟩
    have s1 : Same H (upd H l1 (.lst [.non])) := Same.new hl1
    have g1 : (upd H l1 (.lst [.non])) l1 = some (.lst [.non]) := upd_same
    generalize upd H l1 (.lst [.non]) = H1 at s1 g1 ⊢
    refine ⟨_, rfl, t, _, _, .ref ca, rfl, rfl, SqT.of (s1 _ _ gt), atN (j := 0) rfl rfl, l1, ca, _, _, rfl, rfl, g1, s1 _ _ gca, smallL (by rw [hcl]; show 1 + ps.length ≤ 2000; omega), fun l2 hl2 => ?_⟩
    have s2 : Same H1 (upd H1 l2 (.lst ([V.non] ++ cutsV ps))) := Same.new hl2
    have g2 : (upd H1 l2 (.lst ([V.non] ++ cutsV ps))) l2 = some (.lst ([V.non] ++ cutsV ps)) := upd_same
    generalize upd H1 l2 (.lst ([V.non] ++ cutsV ps)) = H2 at s2 g2 ⊢
    refine ⟨smallL (by show 1 ≤ 2000; decide), fun l3 hl3 => ?_⟩
    have s3 : Same H2 (upd H2 l3 (.lst [.non])) := Same.new hl3
    have g3 : (upd H2 l3 (.lst [.non])) l3 = some (.lst [.non]) := upd_same
    generalize upd H2 l3 (.lst [.non]) = H3 at s3 g3 ⊢
    refine ⟨l2, l3, _, _, rfl, rfl, s3 _ _ g2, g3, smallL (by rw [List.length_append, hcl]; show 1 + ps.length + 1 ≤ 2000; omega), fun le hle => ?_⟩
    have s4 : Same H3 (upd H3 le (.lst ([V.non] ++ cutsV ps ++ [V.non]))) := Same.new hle
    have ge : (upd H3 le (.lst ([V.non] ++ cutsV ps ++ [V.non]))) le = some (.lst ((V.non :: cutsV ps) ++ [V.non])) := upd_same
    generalize upd H3 le (.lst ([V.non] ++ cutsV ps ++ [V.non])) = H4 at s4 ge ⊢
    have s04 : Same H H4 := ((s1.trans s2).trans s3).trans s4
    refine ⟨Nat.zero_le _, fun lp hlp => ?_⟩
    have hlp0 : H lp = none := s04.free hlp
    have s5 : Same H4 (upd H4 lp (.lst [])) := Same.new hlp
    have gp : (upd H4 lp (.lst [])) lp = some (.lst []) := upd_same
    have ge5 := s5 _ _ ge
    have nel : le ≠ lp := ne_of_none ge hlp
    generalize upd H4 lp (.lst []) = H5 at s5 gp ge5 ⊢
    have s05 := s04.trans s5
    have hhl : (holdsV v ps).length = ps.length + 1 := by show (ps.map (·.2)).length + 1 = _; rw [List.length_map]
    refine ⟨_, rfl, t, _, _, .ref ho, rfl, rfl, SqT.of (s05 _ _ gt), atN (j := 1) rfl rfl, ho, _, rfl, .inl (SqL.of (s05 _ _ gho)), _, rfl, by omega, by rw [hhl]; omega, ?_⟩
    rw [Int.toNat_natCast]
    have ha := all_len ps none v
    have hok : ∀ r ∈ allRuns none v ps, heldR r = true → RunOk r := fun r hr hh => all_mem_ok hF.st (fun c e => by cases e) hF.hh.h0 hF.hh.hs ⟨fun a e => by cases e⟩ hb r hr hh
    refine for_range (fun i σ H' => ∃ y3 y4 : Option V, σ = [some (.ref t), some (.ref le), some (.ref lp), y3, y4] ∧ Same H H' ∧ H' le = some (.lst ((V.non :: cutsV ps) ++ [V.non])) ∧ H' lp = some (.lst ((((allRuns none v ps).take i).filter heldR).map fun r => V.str (pieceT r)))) ⟨none, none, rfl, s05, ge5, gp⟩ ?_ ?_
    · rintro i σ H' hi ⟨y3, y4, rfl, s6, ge6, gp6⟩
      have hil : i < (allRuns none v ps).length := by rw [ha]; omega
      have hri : (allRuns none v ps)[i]? = some ((allRuns none v ps)[i]'hil) := List.getElem?_eq_getElem _
      generalize (allRuns none v ps)[i]'hil = r at hri
      obtain ⟨ee1, ee2⟩ := ends_list v ps i r hri
      have ev : (holdsV v ps)[i]? = some r.2.2 := by rw [← all_vals ps none v, List.getElem?_map, hri]; rfl
      refine ⟨_, rfl, t, _, _, .ref ho, rfl, rfl, SqT.of (s6 _ _ gt), atN (j := 1) rfl rfl, _, rfl, ho, _, _, r.2.2, rfl, rfl, SqL.of (s6 _ _ gho), atN (j := i) (by omega) ev, _, rfl, ite2 (fun hc => ?_) (fun hc => ?_)⟩
      · have hh : heldR r = true := decide_eq_true fun e => by rw [decide_eq_true e] at hc; cases hc
        have ro := hok r (List.mem_of_getElem? hri) hh
        obtain ⟨wx, hw, ew⟩ := ro.word
        have l1 := end_len ro.e1
        have l2' := end_len ro.e2
        have l4 : (".." : Str).length = 2 := by decide +kernel
        have l5 : (" " : Str).length = 1 := by decide +kernel
        have ll : ((((allRuns none v ps).take i).filter heldR).map fun r => V.str (pieceT r)).length ≤ 71 := by
          rw [List.length_map]
          refine Nat.le_trans (List.length_filter_le ..) ?_
          rw [List.length_take]; omega
        refine ⟨_, rfl, _, rfl, le, _, _, optV r.1, rfl, rfl, SqL.of ge6, atN (j := i) (by omega) ee1, r.1, rfl, ro.e1, _, _, rfl, rfl, smallL (by rw [l4]; omega), ?_⟩
        refine ⟨_, rfl, _, rfl, _, _, rfl, rfl, le, _, _, optV r.2.1, rfl, rfl, SqL.of ge6, atN (j := i + 1) (by omega) ee2, r.2.1, rfl, ro.e2, _, _, rfl, rfl, smallL (by rw [Str.length_append, l4]; omega), ?_⟩
        refine ⟨_, rfl, .inl ⟨rfl, _, SqL.of gp6⟩, _, rfl, _, _, rfl, rfl, smallL (by rw [Str.length_append, Str.length_append, l4, l5]; omega), ?_⟩
        refine ⟨_, rfl, t, _, _, .ref ho, rfl, rfl, SqT.of (s6 _ _ gt), atN (j := 1) rfl rfl, _, rfl, ho, _, _, r.2.2, rfl, rfl, SqL.of (s6 _ _ gho), atN (j := i) (by omega) ev, ?_⟩
        refine ⟨_, wx, rfl, ew, smallL (by rw [Str.length_append, Str.length_append, Str.length_append, l4, l5]; have := hw.2.1; omega), lp, _, _, rfl, rfl, gp6, small (by omega), ?_⟩
        refine ⟨_, _, rfl, Same.upd s6 hlp0, by rw [upd_ne nel]; exact ge6, ?_⟩
        rw [upd_same, List.take_add_one, hri]
        show some (HO.lst _) = some (HO.lst _)
        congr 2
        rw [show (some r).toList = [r] from rfl, List.filter_append, List.map_append, List.filter_cons, if_pos hh]
        have ep : pieceT r = endT r.1 ++ ".." ++ endT r.2.1 ++ " " ++ wx := by unfold pieceT; rw [ew]; rfl
        rw [← ep]
        rfl
      · have hn : r.2.2 = .non := by
          by_cases e : r.2.2 = .non
          · exact e
          · exact absurd (by rw [decide_eq_false e]; rfl) hc
        have hh : ¬ heldR r = true := fun h => of_decide_eq_true h hn
        refine ⟨_, _, rfl, s6, ge6, ?_⟩
        rw [gp6, List.take_add_one, hri, show (some r).toList = [r] from rfl, List.filter_append, List.filter_cons, if_neg hh]
        simp
    · rintro σ H' ⟨y3, y4, rfl, s6, ge6, gp6⟩
      rw [List.take_of_length_le (by rw [ha, hhl]; exact Nat.le_refl _)] at gp6
      have ez : (((allRuns none v ps).filter heldR).map fun r => V.str (pieceT r)) = ((runsOf none v ps).map pieceT).map V.str := by rw [List.map_map]; rfl
      rw [ez] at gp6
      have hl : ((runsOf none v ps).map pieceT).length ≤ 71 := by
        rw [List.length_map]
        refine Nat.le_trans (List.length_filter_le ..) ?_
        omega
      have hs := join_small hl fun z hz => by
        obtain ⟨r, hr, rfl⟩ := List.mem_map.mp hz
        exact piece_len (runs_ok hF hb r hr)
      exact ⟨rfl, _, rfl, ", ", lp, _, rfl, rfl, SqL.of gp6, Nat.le_trans hs (by decide), k _ s6⟩
end
end Cut
set_option Elab.async false
set_option linter.all false
set_option maxRecDepth 100000
set_option maxHeartbeats 4000000
namespace Cut
open PySem L2 PyProof.Rows
section
variable {P : Program} {w : World} {K : PySem.W.Frag} {mg : Str → Option Value} {base : Heap} {C : Addr}
def spNames13 : Sp := fun vs H Q _ => ∃ c : Int, vs = [.int c] ∧ ∀ (l : Addr) (H' : Hp) (t1 t2 t3 : Str), Word t1 → Word t2 → Word t3 → Same H H' → H l = none → H' l = some (.lst [.non, .str t1, .str t2, .str t3]) → Q (.ref l) H'
theorem letter_in {i : Int} {c : Nat} (h : atI ("abcdefghijklmnopqrstuvwxyz" : Str).cps.toList i = some c) : 97 ≤ c ∧ c ≤ 122 := by
  obtain ⟨j, _, h2, _⟩ := atI_get h
  have hm := List.mem_of_getElem? h2
  have hall : ∀ c ∈ ("abcdefghijklmnopqrstuvwxyz" : Str).cps.toList, 97 ≤ c ∧ c ≤ 122 := by decide +kernel
  exact hall c hm
theorem word_one {c : Nat} (h : 97 ≤ c ∧ c ≤ 122) : Word ⟨#[c]⟩ := ⟨Nat.le_refl 1, (by show 1 ≤ 12; decide), fun d hd => by
  rw [List.mem_singleton.mp (show d ∈ [c] from hd)]; exact h⟩
theorem rep_chars (c : Nat) : ∀ n : Nat, chs (Str.join "" (List.replicate n (⟨#[c]⟩ : Str))) = List.replicate n c
  | 0 => by show chs (Str.join "" ([] : List Str)) = ([] : List Nat); decide +kernel
  | 1 => rfl
  | n + 2 => by
    have e : List.replicate (n + 2) (⟨#[c]⟩ : Str) = ⟨#[c]⟩ :: ⟨#[c]⟩ :: List.replicate n ⟨#[c]⟩ := rfl
    rw [e, join_cons2]
    have e2 : (⟨#[c]⟩ : Str) :: List.replicate n (⟨#[c]⟩ : Str) = List.replicate (n + 1) (⟨#[c]⟩ : Str) := rfl
    rw [e2, rep_chars c (n + 1), show chs ("" : Str) = [] from by decide +kernel]
    rfl
theorem word_rep {c n : Nat} (h : 97 ≤ c ∧ c ≤ 122) (h1 : 1 ≤ n) (h2 : n ≤ 12) : Word (Txt.join "" (List.replicate n (⟨#[c]⟩ : Str)) ++ "") := by
  have e : chs (Txt.join "" (List.replicate n (⟨#[c]⟩ : Str)) ++ "") = List.replicate n c := by
    rw [chs_app, show chs ("" : Str) = [] from by decide +kernel, List.append_nil]
    show chs (Builtin.Str.glued "" _) = _
    rw [StrLaws.glued_eq_join]
    exact rep_chars c n
  have hl : (Txt.join "" (List.replicate n (⟨#[c]⟩ : Str)) ++ "").length = n := by rw [← chs_len, e, List.length_replicate]
  refine ⟨by omega, by omega, fun d hd => ?_⟩
  rw [show (Txt.join "" (List.replicate n (⟨#[c]⟩ : Str)) ++ "").cps.toList = _ from e] at hd
  rw [List.eq_of_mem_replicate hd]
  exact h
abbrev scN : Scope := { kind := .function, names := [(".0", .local), ("k", .local), ("first", .free)], isGenerator := false, isCoroutine := false, more := [] }
theorem cs_names : CScope (defScope s_law_names) scN ["cell", "letters", "first", "size"] ["k", "first"] [2] "k" :=
  ⟨rfl, by decide +kernel, by decide +kernel, by decide +kernel, by decide +kernel, rfl, by decide +kernel, by decide +kernel, by decide +kernel, by decide +kernel⟩
theorem ok_names {f : Addr} {fd : FuncData} (F : Fun K "_law_names" "_law_names" s_law_names f fd) (T : Txt K mg C) : FnOk P w K mg base CX0 1 f fd ["cell"] spNames13 := by
  refine F.ok sc_law_names (fun vs H Q E h => ?_) (fun cdv A outer s H vs Q E hr h => ?_)
  · obtain ⟨c, rfl, _⟩ := h
    rfl
  · obtain ⟨c, rfl, k⟩ := h
    refine' ⟨_, pss_cons (ps_set (i := 1) sc_law_names.nd rfl (Or.inl rfl) pe_str)
      (pss_cons (ps_set (i := 2) sc_law_names.nd rfl (Or.inr rfl) ?u1)
      (pss_cons (ps_set (i := 3) sc_law_names.nd rfl (Or.inl rfl) (pe_op op_add pe_int (pe_op op_mod (pe_op op_fdiv (pv 0) pe_int) pe_int)))
      (pss_one (ps_ret (pe_lst (pa_cons pe_non (pa_cons (pv 2) (pa_cons ?u2 (pa_cons ?u3 pa_nil))))))))), ?_⟩
    case u1 =>
      refine' pe_ix ix_str ?v1 ?v2 (fun _ _ => rfl)
      case v1 => exact pv 1
      case v2 => exact pe_op op_mod (pv 0) pe_int
    case u2 =>
      refine' pe_op op_add_str ?v1 ?v2
      case v2 => exact pe_str
      case v1 =>
        refine' pe_bm PySem.F.plainAttrs_str PySem.F.slot_str_join PySem.F.type_str_join mt_join ?w1 ?w2
        case w1 => exact pe_str
        case w2 =>
          refine' pa_cons ?z1 pa_nil
          case z1 =>
            refine' pe_comp cs_names rfl rfl rfl ?y1 ?y2 ?y3
            case y1 => exact pi_range1 rfl T.range (pa_cons (pv 3) pa_nil)
            case y2 => exact fun _ _ _ _ _ => pf_nil
            case y3 => exact fun _ _ _ _ _ => pv 1
    case u3 =>
      refine' pe_ix ix_str ?v1 ?v2 (fun _ _ => rfl)
      case v1 => exact pv 1
      case v2 => exact pe_op op_mod (pe_op op_add (pv 0) pe_int) pe_int
    obtain ⟨c1, e1⟩ := letter_at (Int.emod_nonneg c (by decide : (26 : Int) ≠ 0)) (Int.emod_lt_of_pos c (by decide))
    obtain ⟨c2, e2⟩ := letter_at (Int.emod_nonneg (c + 5) (by decide : (26 : Int) ≠ 0)) (Int.emod_lt_of_pos (c + 5) (by decide))
    have b1 := letter_in e1
    have b2 := letter_in e2
    have m0 := Int.emod_nonneg (c / 26) (by decide : (12 : Int) ≠ 0)
    have m1 := Int.emod_lt_of_pos (c / 26) (by decide : (0 : Int) < 12)
    refine ⟨_, rfl, _, rfl, _, _, rfl, rfl, (by show (0 : Int) < 26; decide), _, _, c1, rfl, rfl, letters_len, e1, ?_⟩
    refine ⟨_, rfl, _, _, rfl, rfl, ⟨by decide, by decide⟩, _, _, rfl, rfl, (by show (0 : Int) < 12; decide), _, _, rfl, rfl, ?_⟩
    refine ⟨_, rfl, rfl, _, rfl, _, rfl, by omega, by omega, ?_⟩
    refine comp_rng (js := [2]) (tt := tAll) (te := tVar 1) (lo := 0) (n := (1 + c / 26 % 12).toNat) (fun _ => V.str ⟨#[c1]⟩) ?h1 ?h2 ?h3 ?h4
    case h1 => omega
    case h2 => exact fun i H2 Q' _ _ q => q
    case h3 => exact fun i H2 Q' _ _ q => ⟨_, rfl, q⟩
    case h4 =>
    intro l hl
    have hz : (((List.replicate (1 + c / 26 % 12).toNat (⟨#[c1]⟩ : Str))).map (·.length)).sum + (List.replicate (1 + c / 26 % 12).toNat (⟨#[c1]⟩ : Str)).length * ("" : Str).length ≤ 100 := by
      rw [List.map_replicate, List.length_replicate]
      have e : ("" : Str).length = 0 := by decide +kernel
      have e3 : (⟨#[c1]⟩ : Str).length = 1 := rfl
      rw [e, e3, Nat.mul_zero, List.sum_replicate_nat]
      omega
    have w1 : Word ⟨#[c1]⟩ := word_one b1
    have w3 : Word ⟨#[c2]⟩ := word_one b2
    have w2 : Word (Txt.join "" (List.replicate (1 + c / 26 % 12).toNat (⟨#[c1]⟩ : Str)) ++ "") := word_rep b1 (by omega) (by omega)
    have hj := join_len "" (List.replicate (1 + c / 26 % 12).toNat (⟨#[c1]⟩ : Str))
    refine ⟨"", l, List.replicate (1 + c / 26 % 12).toNat ⟨#[c1]⟩, rfl, rfl, SqL.of ?_, Nat.le_trans hz (by decide), _, _, rfl, rfl, ?_, ?_⟩
    · rw [upd_same, List.map_replicate]
      congr 2
      rw [List.map_const']
      simp
    · have e : ("" : Str).length = 0 := by decide +kernel
      rw [e]
      exact smallL (by omega)
    · refine ⟨_, rfl, _, rfl, _, _, rfl, rfl, _, _, rfl, rfl, (by show (0 : Int) < 26; decide), _, _, c2, rfl, rfl, letters_len, e2, smallL (by show 4 ≤ 2000; decide), fun l' hl' => ?_⟩
      exact k l' _ _ _ _ w1 w2 w3 (Same.upd (Same.new hl) ((Same.new hl).free hl')) ((Same.new hl).free hl') upd_same
theorem step_at13 {i : Int} (h0 : 0 ≤ i) (h1 : i < 6) : ∃ d : Int, 0 ≤ d ∧ d ≤ 10000000000000000000000000 ∧ atI [V.int 0, V.int 1, V.int 1, V.int 2, V.int 5, V.int ((10 : Int) ^ (25 : Int).toNat)] i = some (V.int d) := by
  have h : i = 0 ∨ i = 1 ∨ i = 2 ∨ i = 3 ∨ i = 4 ∨ i = 5 := by omega
  rcases h with e | e | e | e | e | e <;> subst e
  · exact ⟨0, by decide, by decide, rfl⟩
  · exact ⟨1, by decide, by decide, rfl⟩
  · exact ⟨1, by decide, by decide, rfl⟩
  · exact ⟨2, by decide, by decide, rfl⟩
  · exact ⟨5, by decide, by decide, rfl⟩
  · exact ⟨(10 : Int) ^ (25 : Int).toNat, by decide, by decide, rfl⟩
def spTold13 (K : PySem.W.Frag) : Sp := fun vs H Q _ => ∃ (a l : Addr) (ns : List Int) (ts : List V), vs = [.ref a, .ref l] ∧ SqL K H a (ns.map V.int) ∧ ns.length ≤ 63 ∧ Names K H l ts ∧
  ∀ (t : Addr) (H' : Hp) (v : V) (ps : List (Int × V)), Same H H' → ToldNew H H' t v ps → Rise ps → Holds v ps → ps.length = ns.length - 1 → (∀ q ∈ ps, -20 ≤ q.1 ∧ q.1 ≤ 20 + 63 * 10000000000000000000000000) → Q (.ref t) H'
theorem ok_told {f : Addr} {fd : FuncData} (F : Fun K "_law_told" "_law_told" s_law_told f fd) (T : Txt K mg C) (DC : Def P w K mg base "_law_cell_at" ["script", "k"] 1 (spCellAt K)) : FnOk P w K mg base CX0 2 f fd ["cells", "names"] (spTold13 K) := by
  refine F.ok sc_law_told (fun vs H Q E h => ?_) (fun cdv A outer s H vs Q E hr h => ?_)
  · obtain ⟨a, l, ns, ts, rfl, _⟩ := h
    rfl
  · obtain ⟨a, l, ns, ts, rfl, hS, hlen, ⟨hN, hN4, hNv⟩, k⟩ := h
    refine' ⟨_, pss_cons (ps_set (i := 2) sc_law_told.nd rfl (Or.inl rfl) (pe_lst pa_nil))
      (pss_cons (ps_set (i := 3) sc_law_told.nd rfl (Or.inl rfl) (pe_lst (pa_cons (pe_ix ix_list (pv 1) (pe_op op_mod (pe_callD DC hr rfl (pa_cons (pv 0) (pa_cons pe_int pa_nil))) pe_int) (fun _ _ => rfl)) pa_nil)))
      (pss_cons (ps_set (i := 4) sc_law_told.nd rfl (Or.inl rfl) (pe_op op_sub (pe_op op_mod (pe_op op_fdiv (pe_callD DC hr rfl (pa_cons (pv 0) (pa_cons pe_int pa_nil))) pe_int) pe_int) pe_int))
      (pss_cons (ps_for PassesOwn.never rfl (pi_list (pe_slice sl_list (pv 0) (po_some pe_int) po_none)) (pg_name (i := 5) sc_law_told.nd rfl (Or.inl rfl))
        (pss_cons (ps_expr (pe_bm PySem.F.plainAttrs_list PySem.F.slot_list_append PySem.F.type_list_append mt_append (pv 2) (pa_cons (pv 4) pa_nil)))
        (pss_cons (ps_expr (pe_bm PySem.F.plainAttrs_list PySem.F.slot_list_append PySem.F.type_list_append mt_append (pv 3) (pa_cons (pe_ix ix_list (pv 1) (pe_op op_mod (pv 5) pe_int) (fun _ _ => rfl)) pa_nil)))
        (pss_one (ps_set (i := 4) sc_law_told.nd rfl (Or.inl rfl) (pe_op op_add (pv 4) ?u))))))
      (pss_one (ps_ret (pe_tup (pa_cons (pv 2) (pa_cons (pv 3) pa_nil)))))))), ?_⟩
    case u =>
      refine' pe_ix ix_list ?u1 ?u2 (fun _ _ => rfl)
      case u1 => exact pe_lst (pa_cons pe_int (pa_cons pe_int (pa_cons pe_int (pa_cons pe_int (pa_cons pe_int (pa_cons (pe_op op_pow pe_int pe_int) pa_nil))))))
      case u2 => exact pe_op op_mod (pe_op op_fdiv (pv 5) pe_int) pe_int
    have md : ∀ (n : Int), ∃ v, HV v ∧ atI ts (n % 4) = some v := fun n => by
      obtain ⟨v, hv, e⟩ := in_list (ts := ts) (Int.emod_nonneg n (by decide : (4 : Int) ≠ 0)) (by rw [hN4]; exact Int.emod_lt_of_pos n (by decide))
      exact ⟨v, hNv v hv, e⟩
    obtain ⟨v0, hv0, ev0⟩ := md (ns.getD 0 0)
    refine ⟨Nat.zero_le _, fun cu hcu => ?_⟩
    have s1 : Same H (upd H cu (.lst [])) := Same.new hcu
    refine ⟨_, rfl, _, rfl, a, ns, 0, rfl, s1.seq hS, hlen, _, _, rfl, rfl, (by show (0 : Int) < 4; decide), l, ts, _, v0, rfl, rfl, s1.seq hN, ev0, smallL (by show 1 ≤ 2000; decide), fun ho hho => ?_⟩
    have hho0 : H ho = none := s1.free hho
    have nch : cu ≠ ho := fun e => by rw [← e, upd_same] at hho; cases hho
    have s2 : Same H (upd (upd H cu (.lst [])) ho (.lst [v0])) := Same.upd s1 hho0
    refine ⟨_, rfl, a, ns, 0, rfl, s2.seq hS, hlen, _, _, rfl, rfl, ⟨by decide, by decide⟩, _, _, rfl, rfl, (by show (0 : Int) < 41; decide), _, _, rfl, rfl, ?_⟩
    have ecut : cutV (ns.map V.int) (some 1) none = (ns.drop 1).map V.int := by
      rw [show (1 : Int) = ((1 : Nat) : Int) from rfl, cut_from, List.map_drop]
    refine ⟨_, rfl, _, rfl, a, _, rfl, s2.seq hS, fun sl hsl => ⟨sl, rfl, ⟨_, SqL.of upd_same⟩, ?_⟩⟩
    rw [ecut]
    have hsl0 : H sl = none := s2.free hsl
    have g1 : (upd (upd H cu (.lst [])) ho (.lst [v0])) cu = some (.lst []) := by rw [upd_ne nch, upd_same]
    have nsc : cu ≠ sl := ne_of_none g1 hsl
    have nsh : ho ≠ sl := ne_of_none (H := upd (upd H cu (.lst [])) ho (.lst [v0])) upd_same hsl
    refine for_list (K := K) (a := sl) (xs := (ns.drop 1).map V.int) (fun i σ H2 => ∃ (kp : List (Int × V)) (pl : Int) (x5 : Option V), σ = [some (.ref a), some (.ref l), some (.ref cu), some (.ref ho), some (.int pl), x5] ∧ Same H H2 ∧
      H2 sl = some (.lst ((ns.drop 1).map V.int)) ∧ H2 cu = some (.lst (cutsV kp)) ∧ H2 ho = some (.lst (holdsV v0 kp)) ∧ Holds v0 kp ∧ kp.length = i ∧ Rise kp ∧ (∀ q ∈ kp, q.1 ≤ pl) ∧ (∀ q ∈ kp, -20 ≤ q.1) ∧ -20 ≤ pl ∧ pl ≤ 20 + (i : Int) * 10000000000000000000000000) ?_ (fun i σ H2 _ ⟨_, _, _, _, _, h, _⟩ => SqL.of h) ?_ ?_
    · refine ⟨[], _, none, rfl, Same.upd s2 hsl0, upd_same, by rw [upd_ne nsc]; exact g1, by rw [upd_ne nsh, upd_same]; rfl, ⟨hv0, fun q hq => nomatch hq⟩, rfl, List.Pairwise.nil, fun q hq => (nomatch hq), fun q hq => (nomatch hq), by have := Int.emod_nonneg (ns.getD 0 0 / 4) (by decide : (41 : Int) ≠ 0); omega, by have := Int.emod_lt_of_pos (ns.getD 0 0 / 4) (by decide : (0 : Int) < 41); omega⟩
    · rintro i y σ H2 hi ⟨kp, pl, x5, rfl, s3, h3s, h3c, h3h, hkp, hki, hrise, hpl, hlow, hp1, hp2⟩
      have hil := (List.getElem?_eq_some_iff.mp hi).1
      rw [List.length_map, List.length_drop] at hil
      obtain ⟨c, rfl⟩ : ∃ c, y = V.int c := by
        rw [List.getElem?_map] at hi
        cases e : (ns.drop 1)[i]? with
        | none => rw [e] at hi; cases hi
        | some z => rw [e] at hi; exact ⟨z, (Option.some.inj hi).symm⟩
      obtain ⟨u, hu, eu⟩ := md c
      obtain ⟨d, hd, hd2, ed⟩ := step_at13 (Int.emod_nonneg (c / 4) (by decide : (6 : Int) ≠ 0)) (Int.emod_lt_of_pos (c / 4) (by decide))
      have s4 : Same H (upd H2 cu (.lst (cutsV kp ++ [.int pl]))) := Same.upd s3 hcu
      have h4h : (upd H2 cu (.lst (cutsV kp ++ [.int pl]))) ho = some (.lst (holdsV v0 kp)) := by rw [upd_ne nch.symm]; exact h3h
      refine ⟨_, rfl, .inl ⟨rfl, _, SqL.of h3c⟩, _, rfl, cu, _, _, rfl, rfl, h3c, small (by rw [List.length_map]; omega), ?_⟩
      refine ⟨_, rfl, .inl ⟨rfl, _, SqL.of h4h⟩, _, rfl, _, rfl, _, _, rfl, rfl, (by show (0 : Int) < 4; decide), l, ts, _, u, rfl, rfl, s4.seq hN, eu, ho, _, _, rfl, rfl, h4h, small (by show (kp.map _).length + 1 ≤ 2000; rw [List.length_map]; omega), ?_⟩
      have s5 : Same H (upd (upd H2 cu (.lst (cutsV kp ++ [.int pl]))) ho (.lst (holdsV v0 kp ++ [u]))) := Same.upd s4 hho0
      refine ⟨_, rfl, _, _, rfl, rfl, ⟨by decide, by decide, by decide⟩, smallL (by show 6 ≤ 2000; decide), fun dl hdl => ⟨_, rfl, _, _, rfl, rfl, ⟨by decide, by decide⟩, _, _, rfl, rfl, (by show (0 : Int) < 6; decide), dl, _, _, .int d, rfl, rfl, SqL.of upd_same, ed, _, _, rfl, rfl, ?_⟩⟩
      have f1 : (upd (upd H2 cu (.lst (cutsV kp ++ [.int pl]))) ho (.lst (holdsV v0 kp ++ [u]))) cu = some (.lst (cutsV kp ++ [.int pl])) := by rw [upd_ne nch, upd_same]
      have f2 : (upd (upd H2 cu (.lst (cutsV kp ++ [.int pl]))) ho (.lst (holdsV v0 kp ++ [u]))) sl = some (.lst ((ns.drop 1).map V.int)) := by rw [upd_ne nsh.symm, upd_ne nsc.symm]; exact h3s
      refine ⟨kp ++ [(pl, u)], pl + d, some (.int c), rfl, Same.upd s5 (s5.free hdl), ?_, ?_, ?_, ⟨hkp.h0, fun z hz => ?_⟩, ?_, ?_, fun z hz => ?_, fun z hz => ?_, by omega, by rw [Int.natCast_add, Int.add_mul]; omega⟩
      · rw [upd_ne (ne_of_none f2 hdl)]; exact f2
      · rw [upd_ne (ne_of_none f1 hdl), f1]
        show _ = some (HO.lst ((kp ++ [(pl, u)]).map _))
        rw [List.map_append]; rfl
      · rw [upd_ne (ne_of_none (H := upd (upd H2 cu (.lst (cutsV kp ++ [.int pl]))) ho (.lst (holdsV v0 kp ++ [u]))) upd_same hdl), upd_same]
        show _ = some (HO.lst (v0 :: (kp ++ [(pl, u)]).map _))
        rw [List.map_append]; rfl
      · rcases List.mem_append.mp hz with z1 | z1
        · exact hkp.hs z z1
        · rw [List.mem_singleton.mp z1]; exact hu
      · rw [List.length_append, List.length_singleton]; omega
      · refine List.pairwise_append.mpr ⟨hrise, List.pairwise_singleton _ _, fun x hx y hy => ?_⟩
        rw [List.mem_singleton.mp hy]; exact hpl x hx
      · rcases List.mem_append.mp hz with z1 | z1
        · have := hpl z z1; omega
        · rw [List.mem_singleton.mp z1]; show pl ≤ pl + d; omega
      · rcases List.mem_append.mp hz with z1 | z1
        · exact hlow z z1
        · rw [List.mem_singleton.mp z1]; exact hp1
    · rintro σ H2 ⟨kp, pl, x5, rfl, s3, h3s, h3c, h3h, hkp, hki, hrise, hpl, hlow, hp1, hp2⟩
      refine ⟨_, rfl, _, rfl, smallL (by show 2 ≤ 2000; decide), fun t ht => ?_⟩
      refine k t _ v0 kp (Same.upd s3 (s3.free ht)) ⟨cu, ho, s3.free ht, hcu, hho0, nch, upd_same, ?_, ?_⟩ hrise hkp ?_ fun q hq => ⟨hlow q hq, ?_⟩
      · rw [upd_ne (ne_of_none h3c ht)]; exact h3c
      · rw [upd_ne (ne_of_none h3h ht)]; exact h3h
      · rw [hki, List.length_map, List.length_drop]
      · have h1 := hpl q hq
        have h2 : (((ns.drop 1).map V.int).length : Int) ≤ 62 := by rw [List.length_map, List.length_drop]; omega
        have h3 : (((ns.drop 1).map V.int).length : Int) * 10000000000000000000000000 ≤ 62 * 10000000000000000000000000 := Int.mul_le_mul_of_nonneg_right h2 (by decide)
        omega
end
end Cut
set_option Elab.async false
set_option linter.all false
set_option maxRecDepth 100000
set_option maxHeartbeats 4000000
namespace Cut
open PySem L2 PyProof.Rows
section
variable {P : Program} {w : World} {K : PySem.W.Frag} {mg : Str → Option Value} {base : Heap} {C : Addr}
theorem ok_cell_at {f : Addr} {fd : FuncData} (F : Fun K "_law_cell_at" "_law_cell_at" s_law_cell_at f fd) (T : Txt K mg C) : FnOk P w K mg base CX0 1 f fd ["script", "k"] (spCellAt K) := by
  refine F.ok sc_law_cell_at (fun vs H Q E h => ?_) (fun cdv A outer s H vs Q E hr h => ?_)
  · obtain ⟨a, ns, k, rfl, _⟩ := h
    rfl
  · obtain ⟨a, ns, k, rfl, hS, hlen, q⟩ := h
    refine ⟨_, pss_cons (ps_if (pt_cmpR op_lt (pv 1) (pe_callB call_len_seq rfl T.len PySem.boot_len (pa_cons (pv 0) pa_nil)) (nomark _)) (pss_one (ps_ret (pe_ix ix_list (pv 0) (pv 1) (fun _ _ => rfl)))) pss_nil) (pss_one (ps_ret pe_int)), ?_⟩
    have lenC : (ns.map V.int).length = ns.length := List.length_map ..
    refine ⟨_, rfl, _, rfl, a, _, rfl, .inl hS, _, _, rfl, rfl, _, rfl, ite2 (fun hc => ?_) (fun hc => ?_)⟩
    · have hk : k < ns.length := by
        have := of_decide_eq_true hc
        omega
      refine ⟨_, rfl, _, rfl, a, _, _, .int (ns.getD k 0), rfl, rfl, hS, atI_nat ?_, q⟩
      rw [List.getElem?_map, List.getElem?_eq_getElem hk, List.getD_eq_getElem?_getD, List.getElem?_eq_getElem hk]
      rfl
    · have hk : ¬ k < ns.length := by
        have := of_decide_eq_false (Bool.eq_false_iff.mpr hc)
        omega
      have e : ns.getD k 0 = 0 := by
        rw [List.getD_eq_getElem?_getD, List.getElem?_eq_none (by omega)]; rfl
      rw [e] at q
      exact q
theorem ok_held {f : Addr} {fd : FuncData} (F : Fun K "_law_held" "_law_held" s_law_held f fd) (T : Txt K mg C) : FnOk P w K mg base CX0 1 f fd ["found", "due"] spHeld := by
  refine F.ok sc_law_held (fun vs H Q E h => ?_) (fun cdv A outer s H vs Q E hr h => ?_)
  · obtain ⟨v, u, rfl, _⟩ := h
    rfl
  · obtain ⟨v, u, rfl, hv, hu, k⟩ := h
    obtain ⟨t, ty, _, _, _, k4⟩ := hv.ty (K := K) (H := H)
    refine ⟨_, pss_cons (ps_if (pt_cmp (pc_isN (pv 1))) (pss_one (ps_ret (pe_cmp (pc_isN (pv 0))))) pss_nil)
      (pss_one (ps_ret (pe_and (pe_callB call_isinst rfl T.isinstance boot_isinstance (pa_cons (pv 0) (pa_cons (pe_bltn rfl T.str boot_str (v := .ty "str") rfl) pa_nil))) (pe_one (pe_cmpR op_eq (pv 0) (pv 1) (nomark _)))))), ?_⟩
    refine ⟨_, rfl, _, rfl, ite2 (fun hc => ?_) (fun hc => ?_)⟩
    · have e : u = .non := of_decide_eq_true hc
      subst e
      exact ⟨_, rfl, k⟩
    · have e : u ≠ .non := of_decide_eq_false (Bool.eq_false_iff.mpr hc)
      refine ⟨_, rfl, _, _, _, _, _, rfl, ty, rfl, k4, _, rfl, andV (decide (v = u)) (fun _ Q' q' => ⟨_, rfl, _, rfl, hv.scal hu, q'⟩) ?_⟩
      have e2 : (decide (v ≠ V.non) && decide (v = u)) = decide (v = u) := by
        by_cases hvu : v = u
        · subst hvu; simp [e]
        · simp [hvu]
      rw [e2]
      exact k
theorem ok_at {f : Addr} {fd : FuncData} (F : Fun K "_law_at" "_law_at" s_law_at f fd) (T : Txt K mg C) : FnOk P w K mg base CX0 1 f fd ["told", "place"] (spAt K) := by
  refine F.ok sc_law_at (fun vs H Q E h => ?_) (fun cdv A outer s H vs Q E hr h => ?_)
  · obtain ⟨t, x, v, ps, rfl, _⟩ := h
    rfl
  · obtain ⟨t, x, v, ps, rfl, ⟨a, b, ht, ha, hb⟩, hlen, k⟩ := h
    refine ⟨_, pss_cons (ps_set (i := 2) sc_law_at.nd rfl (Or.inl rfl) (pe_ix ix_list (pe_ix ix_tup (pv 0) pe_int (fun _ _ => rfl)) pe_int (fun _ _ => rfl)))
      (pss_cons (ps_for PassesOwn.never rfl (pi_range1 rfl T.range (pa_cons (pe_callB call_len_seq rfl T.len PySem.boot_len (pa_cons (pe_ix ix_tup (pv 0) pe_int (fun _ _ => rfl)) pa_nil)) pa_nil)) (pg_name (i := 3) sc_law_at.nd rfl (Or.inl rfl))
        (pss_one (ps_if (pt_cmpR op_le (pe_ix ix_list (pe_ix ix_tup (pv 0) pe_int (fun _ _ => rfl)) (pv 3) (fun _ _ => rfl)) (pv 1) (nomark _))
          (pss_one (ps_set (i := 2) sc_law_at.nd rfl (Or.inl rfl) (pe_ix ix_list (pe_ix ix_tup (pv 0) pe_int (fun _ _ => rfl)) (pe_op op_add (pv 3) pe_int) (fun _ _ => rfl)))) pss_nil)))
      (pss_one (ps_ret (pv 2)))), ?_⟩
    refine ⟨_, rfl, t, _, _, .ref b, rfl, rfl, ht, atN (j := 1) rfl rfl, b, _, _, v, rfl, rfl, hb, atN (j := 0) rfl rfl, ?_⟩
    have lenC : (cutsV ps).length = ps.length := List.length_map ..
    refine ⟨_, rfl, t, _, _, .ref a, rfl, rfl, ht, atN (j := 0) rfl rfl, a, _, rfl, .inl ha, _, rfl, by omega, by rw [lenC]; omega, ?_⟩
    rw [show (((cutsV ps).length : Nat) : Int).toNat = ps.length by rw [lenC]; omega]
    refine for_range (fun i σ H' => H' = H ∧ ∃ m, σ = [some (.ref t), some (.int x), some (atL v (ps.take i) x), m]) ⟨rfl, none, rfl⟩ ?_ ?_
    · rintro i σ H' hi ⟨rfl, m, rfl⟩
      obtain ⟨q, hq⟩ : ∃ q, ps[i]? = some q := ⟨_, List.getElem?_eq_getElem hi⟩
      have htk : ps.take (i + 1) = ps.take i ++ [q] := by rw [List.take_add_one, hq]; rfl
      have hat : atL v (ps.take (i + 1)) x = if q.1 ≤ x then q.2 else atL v (ps.take i) x := by rw [htk, atL_append]; rfl
      refine ⟨_, rfl, t, _, _, .ref a, rfl, rfl, ht, atN (j := 0) rfl rfl, _, rfl, a, _, _, .int q.1, rfl, rfl, ha, atN (j := i) (by omega) (by rw [List.getElem?_map, hq]; rfl), _, rfl, _, _, rfl, rfl, _, rfl, ite2 (fun hc => ?_) (fun hc => ?_)⟩
      · have hc' : q.1 ≤ x := of_decide_eq_true hc
        rw [if_pos hc'] at hat
        refine ⟨_, rfl, t, _, _, .ref b, rfl, rfl, ht, atN (j := 1) rfl rfl, _, rfl, _, _, rfl, rfl, b, _, _, q.2, rfl, rfl, hb, atN (j := i + 1) (by omega) (by show (ps.map (·.2))[i]? = _; rw [List.getElem?_map, hq]; rfl), rfl, some (.int (0 + (i : Int))), ?_⟩
        rw [hat]; rfl
      · have hc' : ¬ q.1 ≤ x := of_decide_eq_false (Bool.eq_false_iff.mpr hc)
        rw [if_neg hc'] at hat
        refine ⟨rfl, some (.int (0 + (i : Int))), ?_⟩
        rw [hat]; rfl
    · rintro σ H' ⟨rfl, m, rfl⟩
      rw [List.take_of_length_le (Nat.le_refl _)]
      exact ⟨_, rfl, k⟩
def spWhole : Sp := fun vs H Q _ => ∃ i : Int, vs = [.int i] ∧ Q (.bl true) H
theorem ok_whole {f : Addr} {fd : FuncData} (F : Fun K "_law_whole" "_law_whole" s_law_whole f fd) (T : Txt K mg C) : FnOk P w K mg base CX0 1 f fd ["found"] spWhole := by
  refine F.ok sc_law_whole (fun vs H Q E h => ?_) (fun cdv A outer s H vs Q E hr h => ?_)
  · obtain ⟨i, rfl, _⟩ := h
    rfl
  · obtain ⟨i, rfl, k⟩ := h
    refine ⟨_, pss_one (ps_ret (pe_and (pe_callB call_isinst rfl T.isinstance boot_isinstance (pa_cons (pv 0) (pa_cons (pe_bltn rfl T.int boot_int (v := .ty "int") rfl) pa_nil)))
      (pe_one (pe_not (pe_callB call_isinst rfl T.isinstance boot_isinstance (pa_cons (pv 0) (pa_cons (pe_bltn rfl T.bool boot_bool (v := .ty "bool") rfl) pa_nil))))))), ?_⟩
    exact ⟨_, rfl, _, _, _, _, _, rfl, TyOf.int i, rfl, kit_II, true, rfl, iteT ⟨_, rfl, _, _, _, _, _, rfl, TyOf.int i, rfl, kit_IB, false, rfl, k⟩⟩
def spLine (K : PySem.W.Frag) (C : Addr) : Sp := fun vs H Q _ => ∃ (p t : Addr) (v : V) (ps : List (Int × V)), vs = [.ref p, .ref t] ∧ LineAt C H p v ps ∧ ToldAt K H t v ps ∧ Holds v ps ∧ ps.length ≤ 1000 ∧ Q (.bl true) H
theorem ok_line {f : Addr} {fd : FuncData} (F : Fun K "_law_line" "_law_line" s_law_line f fd) (T : Txt K mg C) (DW : Def P w K mg base "_law_whole" ["found"] 1 spWhole) (DH : Def P w K mg base "_law_held" ["found", "due"] 1 spHeld) :
    FnOk P w K mg base CX0 2 f fd ["found", "due"] (spLine K C) := by
  refine F.ok sc_law_line (fun vs H Q E h => ?_) (fun cdv A outer s H vs Q E hr h => ?_)
  · obtain ⟨p, t, v, ps, rfl, _⟩ := h
    rfl
  · obtain ⟨p, t, v, ps, rfl, ⟨dx, a, b, h1, h2, h3⟩, ⟨ca, ho, gt, gc, gh⟩, hh, hlen, k⟩ := h
    refine' ⟨_, pss_cons (ps_if ?a1 (pss_one (ps_ret pe_bl)) pss_nil)
      (pss_cons (ps_if ?a2 (pss_one (ps_ret pe_bl)) pss_nil)
      (pss_cons (ps_for PassesOwn.never rfl ?b1 (pg_name (i := 2) sc_law_line.nd rfl (Or.inl rfl)) (pss_one (ps_if ?b2 (pss_one (ps_ret pe_bl)) pss_nil)))
      (pss_cons (ps_for PassesOwn.never rfl ?c1 (pg_name (i := 2) sc_law_line.nd rfl (Or.inl rfl)) (pss_one (ps_if ?c2 (pss_one (ps_ret pe_bl)) pss_nil)))
      (pss_one (ps_ret pe_bl))))), ?rd⟩
    case a1 =>
      refine' PW.pt (pw_or (pt_not (pt_val ?x)) (pw_or (pt_not (pt_val ?y)) (pw_or1 (pt_not (pt_val ?z)))))
      case x => exact pe_callB call_isinst rfl T.isinstance boot_isinstance (pa_cons (pv 0) (pa_cons (pe_glob rfl T.mgC (v := .ref C) rfl) pa_nil))
      case y => exact pe_callB call_isinst rfl T.isinstance boot_isinstance (pa_cons (pe_fld (pv 0) rfl) (pa_cons (pe_bltn rfl T.list boot_list (v := .ty "list") rfl) pa_nil))
      case z => exact pe_callB call_isinst rfl T.isinstance boot_isinstance (pa_cons (pe_fld (pv 0) rfl) (pa_cons (pe_bltn rfl T.list boot_list (v := .ty "list") rfl) pa_nil))
    case a2 =>
      refine' PW.pt (pw_or ?x (pw_or1 ?y))
      case x => exact pt_cmpR op_ne (pe_callB call_len_seq rfl T.len PySem.boot_len (pa_cons (pe_fld (pv 0) rfl) pa_nil)) (pe_callB call_len_seq rfl T.len PySem.boot_len (pa_cons (pe_ix ix_tup (pv 1) pe_int (fun _ _ => rfl)) pa_nil)) (nomark _)
      case y => exact pt_cmpR op_ne (pe_callB call_len_seq rfl T.len PySem.boot_len (pa_cons (pe_fld (pv 0) rfl) pa_nil)) (pe_callB call_len_seq rfl T.len PySem.boot_len (pa_cons (pe_ix ix_tup (pv 1) pe_int (fun _ _ => rfl)) pa_nil)) (nomark _)
    case b1 => exact pi_range1 rfl T.range (pa_cons (pe_callB call_len_seq rfl T.len PySem.boot_len (pa_cons (pe_ix ix_tup (pv 1) pe_int (fun _ _ => rfl)) pa_nil)) pa_nil)
    case b2 =>
      refine' PW.pt (pw_or (pt_not (pt_val ?x)) (pw_or1 ?y))
      case x => exact pe_callD DW hr rfl (pa_cons (pe_ix ix_list (pe_fld (pv 0) rfl) (pv 2) (fun _ _ => rfl)) pa_nil)
      case y => exact pt_cmpR op_ne (pe_ix ix_list (pe_fld (pv 0) rfl) (pv 2) (fun _ _ => rfl)) (pe_ix ix_list (pe_ix ix_tup (pv 1) pe_int (fun _ _ => rfl)) (pv 2) (fun _ _ => rfl)) (nomark _)
    case c1 => exact pi_range1 rfl T.range (pa_cons (pe_callB call_len_seq rfl T.len PySem.boot_len (pa_cons (pe_ix ix_tup (pv 1) pe_int (fun _ _ => rfl)) pa_nil)) pa_nil)
    case c2 =>
      refine' pt_not (pt_val ?x)
      case x => exact pe_callD DH hr rfl (pa_cons (pe_ix ix_list (pe_fld (pv 0) rfl) (pv 2) (fun _ _ => rfl)) (pa_cons (pe_ix ix_list (pe_ix ix_tup (pv 1) pe_int (fun _ _ => rfl)) (pv 2) (fun _ _ => rfl)) pa_nil))
    case rd =>
    have lenC : (cutsV ps).length = ps.length := List.length_map ..
    have lenH : (holdsV v ps).length = ps.length + 1 := by show (ps.map _).length + 1 = _; rw [List.length_map]
    refine ⟨_, rfl, _, _, _, _, _, rfl, TyOf.ins h1 T.cl T.ty1 T.ty2 T.ty3 T.ty4, rfl, kit_own, true, rfl, iteN (by decide) ?_⟩
    refine ⟨_, rfl, p, C, dx, _, _, rfl, h1, T.cl, T.nC, flds_cuts _ _, _, _, _, _, _, rfl, TyOf.lst h2, rfl, kit_LL, true, rfl, iteN (by decide) ?_⟩
    refine ⟨_, rfl, p, C, dx, _, _, rfl, h1, T.cl, T.nH, flds_holds _ _, _, _, _, _, _, rfl, TyOf.lst h3, rfl, kit_LL, true, rfl, iteN (by decide) ?_⟩
    refine ⟨_, rfl, p, C, dx, _, _, rfl, h1, T.cl, T.nC, flds_cuts _ _, a, _, rfl, .inl (SqL.of h2), _, rfl, t, _, _, .ref ca, rfl, rfl, gt, atN (j := 0) rfl rfl, ca, _, rfl, .inl gc, rfl, _, rfl, iteNS rfl ?_⟩
    refine ⟨_, rfl, p, C, dx, _, _, rfl, h1, T.cl, T.nH, flds_holds _ _, b, _, rfl, .inl (SqL.of h3), _, rfl, t, _, _, .ref ho, rfl, rfl, gt, atN (j := 1) rfl rfl, ho, _, rfl, .inl gh, rfl, _, rfl, iteNS rfl ?_⟩
    refine ⟨_, rfl, t, _, _, .ref ca, rfl, rfl, gt, atN (j := 0) rfl rfl, ca, _, rfl, .inl gc, _, rfl, by omega, by rw [lenC]; omega, ?_⟩
    rw [show (((cutsV ps).length : Nat) : Int).toNat = ps.length by rw [lenC]; omega]
    refine for_range (fun i σ H' => H' = H ∧ ∃ m, σ = [some (.ref p), some (.ref t), m]) ⟨rfl, none, rfl⟩ ?_ ?_
    · rintro i σ H' hi ⟨rfl, m, rfl⟩
      obtain ⟨q, hq⟩ : ∃ q, ps[i]? = some q := ⟨_, List.getElem?_eq_getElem hi⟩
      have hc : (cutsV ps)[i]? = some (V.int q.1) := by rw [List.getElem?_map, hq]; rfl
      refine ⟨_, rfl, p, C, dx, _, _, rfl, h1, T.cl, T.nC, flds_cuts _ _, _, rfl, a, _, _, .int q.1, rfl, rfl, SqL.of h2, atN (j := i) (by omega) hc, _, rfl, true, rfl, iteN (by decide) ?_⟩
      refine ⟨_, rfl, p, C, dx, _, _, rfl, h1, T.cl, T.nC, flds_cuts _ _, _, rfl, a, _, _, .int q.1, rfl, rfl, SqL.of h2, atN (j := i) (by omega) hc, _, rfl, t, _, _, .ref ca, rfl, rfl, gt, atN (j := 0) rfl rfl, _, rfl, ca, _, _, .int q.1, rfl, rfl, gc, atN (j := i) (by omega) hc, rfl, _, rfl, iteNS rfl ⟨rfl, _, rfl⟩⟩
    · rintro σ H' ⟨rfl, m, rfl⟩
      refine ⟨_, rfl, t, _, _, .ref ho, rfl, rfl, gt, atN (j := 1) rfl rfl, ho, _, rfl, .inl gh, _, rfl, by omega, by rw [lenH]; omega, ?_⟩
      rw [show (((holdsV v ps).length : Nat) : Int).toNat = ps.length + 1 by rw [lenH]; omega]
      refine for_range (fun i σ H'' => H'' = H' ∧ ∃ m, σ = [some (.ref p), some (.ref t), m]) ⟨rfl, m, rfl⟩ ?_ ?_
      · rintro i σ H'' hi ⟨rfl, m, rfl⟩
        obtain ⟨u, hu⟩ : ∃ u, (holdsV v ps)[i]? = some u := ⟨_, List.getElem?_eq_getElem (by rw [lenH]; exact hi)⟩
        have huv : HV u := by
          rcases List.mem_cons.mp (List.mem_of_getElem? hu) with e | e
          · rw [e]; exact hh.h0
          · obtain ⟨q, hq, e⟩ := List.mem_map.mp e
            rw [← e]; exact hh.hs q hq
        exact ⟨_, rfl, p, C, dx, _, _, rfl, h1, T.cl, T.nH, flds_holds _ _, _, rfl, b, _, _, u, rfl, rfl, SqL.of h3, atN (j := i) (by omega) hu, _, rfl, t, _, _, .ref ho, rfl, rfl, gt, atN (j := 1) rfl rfl, _, rfl, ho, _, _, u, rfl, rfl, gh, atN (j := i) (by omega) hu, _, _, rfl, huv, huv, _, rfl, iteNS rfl ⟨rfl, _, rfl⟩⟩
      · rintro σ H'' ⟨rfl, m, rfl⟩
        exact k
def spForm (K : PySem.W.Frag) : Sp := fun vs H Q _ => ∃ (t : Addr) (v : V) (ps : List (Int × V)), vs = [.ref t] ∧ ToldAt K H t v ps ∧ Holds v ps ∧ Rise ps ∧ ps.length ≤ 63 ∧
  ∀ (d : Addr) (H' : Hp), Same H H' → ToldNew H H' d v (formP v ps) → Q (.ref d) H'
theorem ok_form {f : Addr} {fd : FuncData} (F : Fun K "_law_form" "_law_form" s_law_form f fd) (T : Txt K mg C) (DA : Def P w K mg base "_law_at" ["told", "place"] 1 (spAt K)) : FnOk P w K mg base CX0 2 f fd ["told"] (spForm K) := by
  refine F.ok sc_law_form (fun vs H Q E h => ?_) (fun cdv A outer s H vs Q E hr h => ?_)
  · obtain ⟨t, v, ps, rfl, _⟩ := h
    rfl
  · obtain ⟨t, v, ps, rfl, hT, hh, rise, hlen, k⟩ := h
    have hr1 : Room 1 _ := hr.mono (by decide)
    refine' ⟨_, pss_cons (ps_set (i := 1) sc_law_form.nd rfl (Or.inl rfl) (pe_lst pa_nil))
      (pss_cons (ps_set (i := 2) sc_law_form.nd rfl (Or.inl rfl) ?d1)
      (pss_cons (ps_for PassesOwn.never rfl (pi_list ?d2) (pg_name (i := 3) sc_law_form.nd rfl (Or.inl rfl))
        (pss_cons (ps_set (i := 4) sc_law_form.nd rfl (Or.inl rfl) ?d3)
        (pss_one (ps_if ?d4 (pss_cons (ps_expr ?d5) (pss_one (ps_expr ?d6))) pss_nil))))
      (pss_one (ps_ret (pe_tup (pa_cons (pv 1) (pa_cons (pv 2) pa_nil))))))), ?rd⟩
    case d1 => exact pe_lst (pa_cons (pe_ix ix_list (pe_ix ix_tup (pv 0) pe_int (fun _ _ => rfl)) pe_int (fun _ _ => rfl)) pa_nil)
    case d2 => exact pe_sortset rfl rfl T.sorted rfl T.set (pe_ix ix_tup (pv 0) pe_int (fun _ _ => rfl))
    case d3 => exact pe_callD DA hr1 rfl (pa_cons (pv 0) (pa_cons (pv 3) pa_nil))
    case d4 => exact pt_cmpR op_ne (pv 4) (pe_ix ix_list (pv 2) (pe_un un_neg pe_int) (fun _ _ => rfl)) (nomark _)
    case d5 => exact pe_bm PySem.F.plainAttrs_list PySem.F.slot_list_append PySem.F.type_list_append mt_append (pv 1) (pa_cons (pv 3) pa_nil)
    case d6 => exact pe_bm PySem.F.plainAttrs_list PySem.F.slot_list_append PySem.F.type_list_append mt_append (pv 2) (pa_cons (pv 4) pa_nil)
    case rd =>
    obtain ⟨a, b, ht, ha, hb⟩ := id hT
    refine ⟨Nat.zero_le _, fun cu hcu => ?_⟩
    have s1 : Same H (upd H cu (.lst [])) := Same.new hcu
    refine ⟨_, rfl, t, _, _, .ref b, rfl, rfl, Same.tup s1 ht, atN (j := 1) rfl rfl, b, _, _, v, rfl, rfl, s1.seq hb, atN (j := 0) rfl rfl, smallL (by show 1 ≤ 2000; decide), fun ho hho => ?_⟩
    have hho0 : H ho = none := s1.free hho
    have nch : cu ≠ ho := fun e => by rw [← e, upd_same] at hho; cases hho
    have s2 : Same H (upd (upd H cu (.lst [])) ho (.lst [v])) := Same.upd s1 hho0
    have ecv : (ps.map (·.1)).map V.int = cutsV ps := by rw [List.map_map]; rfl
    have hdd : (ddup (ps.map (·.1))).length < 64 := Nat.lt_of_le_of_lt (ddup_le _) (by rw [List.length_map]; omega)
    refine ⟨_, rfl, t, _, _, .ref a, rfl, rfl, Same.tup s2 ht, atN (j := 0) rfl rfl, a, ps.map (·.1), rfl, (by rw [ecv]; exact s2.seq ha), (by rw [List.length_map]; omega), hdd, fun sl τ hsl hτ hm hτl => ⟨sl, rfl, ⟨_, SqL.of upd_same⟩, ?_⟩⟩
    have hsl0 : H sl = none := s2.free hsl
    have g1 : (upd (upd H cu (.lst [])) ho (.lst [v])) cu = some (.lst []) := by rw [upd_ne nch, upd_same]
    have nsc : cu ≠ sl := ne_of_none g1 hsl
    have nsh : ho ≠ sl := ne_of_none (H := upd (upd H cu (.lst [])) ho (.lst [v])) upd_same hsl
    have hτ63 : τ.length ≤ 63 := by omega
    refine for_list (K := K) (a := sl) (xs := τ.map V.int) (fun i σ H2 => ∃ (kp : List (Int × V)) (x3 x4 : Option V), σ = [some (.ref t), some (.ref cu), some (.ref ho), x3, x4] ∧ Same H H2 ∧
      H2 sl = some (.lst (τ.map V.int)) ∧ H2 cu = some (.lst (cutsV kp)) ∧ H2 ho = some (.lst (holdsV v kp)) ∧ Holds v kp ∧ kp.length ≤ i ∧ kp ++ formE (fun e => atL v ps e) (lastH v kp) (τ.drop i) = formE (fun e => atL v ps e) v τ) ?_ (fun i σ H2 _ ⟨_, _, _, _, _, h, _⟩ => SqL.of h) ?_ ?_
    · exact ⟨[], none, none, rfl, Same.upd s2 hsl0, upd_same, by rw [upd_ne nsc]; exact g1, by rw [upd_ne nsh, upd_same]; rfl, ⟨hh.h0, fun q hq => nomatch hq⟩, Nat.le_refl _, rfl⟩
    · rintro i y σ H2 hi ⟨kp, x3, x4, rfl, s3, h3s, h3c, h3h, hkp, hki, hform⟩
      have hil := (List.getElem?_eq_some_iff.mp hi).1
      rw [List.length_map] at hil
      obtain ⟨z, hz⟩ : ∃ z, τ[i]? = some z := ⟨_, List.getElem?_eq_getElem hil⟩
      obtain rfl : V.int z = y := by
        rw [List.getElem?_map, hz] at hi
        exact Option.some.inj hi
      have hdrop : τ.drop i = z :: τ.drop (i + 1) := by
        rw [List.drop_eq_getElem_cons hil]
        congr 1
        have := List.getElem?_eq_getElem hil
        rw [hz] at this
        exact (Option.some.inj this).symm
      have hat : HV (atL v ps z) := hh.at
      refine ⟨_, rfl, _, rfl, t, z, v, ps, rfl, hT.same s3, by omega, ?_⟩
      refine ⟨_, rfl, _, rfl, _, rfl, ho, _, _, _, rfl, rfl, SqL.of h3h, atI_lastH v kp, hat.scal (lastH_hv hkp), _, rfl, ite2 (fun hc => ?_) (fun hc => ?_)⟩
      · have hne : atL v ps z ≠ lastH v kp := fun e => by
          rw [decide_eq_true e] at hc
          cases hc
        refine ⟨_, rfl, .inl ⟨rfl, _, SqL.of h3c⟩, _, rfl, cu, _, _, rfl, rfl, h3c, small (by rw [List.length_map]; omega), ?_⟩
        have h4h : (upd H2 cu (.lst (cutsV kp ++ [.int z]))) ho = some (.lst (holdsV v kp)) := by rw [upd_ne nch.symm]; exact h3h
        refine ⟨_, rfl, .inl ⟨rfl, _, SqL.of h4h⟩, _, rfl, ho, _, _, rfl, rfl, h4h, small (by show (kp.map _).length + 1 ≤ 2000; rw [List.length_map]; omega), ?_⟩
        refine ⟨kp ++ [(z, atL v ps z)], _, _, rfl, Same.upd (Same.upd s3 hcu) hho0, ?_, ?_, ?_, ⟨hkp.h0, fun q hq => ?_⟩, ?_, ?_⟩
        · rw [upd_ne nsh.symm, upd_ne nsc.symm]; exact h3s
        · rw [upd_ne nch, upd_same]
          show _ = some (HO.lst ((kp ++ [(z, atL v ps z)]).map _))
          rw [List.map_append]; rfl
        · rw [upd_same]
          show _ = some (HO.lst (v :: (kp ++ [(z, atL v ps z)]).map _))
          rw [List.map_append]; rfl
        · rcases List.mem_append.mp hq with z1 | z1
          · exact hkp.hs q z1
          · rw [List.mem_singleton.mp z1]; exact hat
        · rw [List.length_append, List.length_singleton]; omega
        · rw [lastH_snoc, ← hform, hdrop]
          show _ = kp ++ (if atL v ps z ≠ lastH v kp then (z, atL v ps z) :: formE (fun e => atL v ps e) (atL v ps z) (τ.drop (i + 1)) else _)
          rw [if_pos hne, List.append_assoc]; rfl
      · refine ⟨kp, _, _, rfl, s3, h3s, h3c, h3h, hkp, by omega, ?_⟩
        rw [← hform, hdrop]
        show _ = kp ++ (if atL v ps z ≠ lastH v kp then _ else formE (fun e => atL v ps e) (lastH v kp) (τ.drop (i + 1)))
        rw [if_neg]
        intro z1
        refine hc ?_
        rw [decide_eq_false z1]; rfl
    · rintro σ H2 ⟨kp, x3, x4, rfl, s3, h3s, h3c, h3h, hkp, hki, hform⟩
      have e : τ.drop (τ.map V.int).length = [] := List.drop_eq_nil_of_le (by rw [List.length_map]; exact Nat.le_refl _)
      rw [e] at hform
      have e2 : kp = formP v ps := by
        rw [← formE_told rise hτ hm, ← hform]
        show kp = kp ++ []
        rw [List.append_nil]
      subst e2
      refine ⟨_, rfl, _, rfl, smallL (by show 2 ≤ 2000; decide), fun d hd => ?_⟩
      refine k d _ (Same.upd s3 (s3.free hd)) ⟨cu, ho, s3.free hd, hcu, hho0, nch, upd_same, ?_, ?_⟩
      · rw [upd_ne (ne_of_none h3c hd)]; exact h3c
      · rw [upd_ne (ne_of_none h3h hd)]; exact h3h
theorem ok_empty {f : Addr} {fd : FuncData} (F : Fun K "empty_line" "empty_line" s_empty_line f fd) (DL : Def P w K mg base "line_of" ["cuts", "holds"] 3 (spLineOf K C)) : FnOk P w K mg base CX0 4 f fd [] (spEmpty C) := by
  refine F.ok sc_empty_line (fun vs H Q E h => ?_) (fun cdv A outer s H vs Q E hr h => ?_)
  · obtain ⟨rfl, _⟩ := h
    rfl
  · obtain ⟨rfl, k⟩ := h
    refine ⟨_, pss_one (ps_ret (pe_callD DL hr rfl (pa_cons (pe_lst pa_nil) (pa_cons (pe_lst (pa_cons pe_non pa_nil)) pa_nil)))), ?_⟩
    refine ⟨Nat.zero_le _, fun l1 h1 => ⟨smallL (by show 1 ≤ 2000; decide), fun l2 h2 => ⟨l1, l2, .non, [], rfl, ?_, SqL.of upd_same, ⟨HV.non, fun q hq => nomatch hq⟩, Nat.zero_le _, fun p H' s' ln => ?_⟩⟩⟩
    · refine SqL.of ?_
      rw [upd_ne fun e => by rw [← e, upd_same] at h2; cases h2]
      exact upd_same
    · have s2 : Same H (upd (upd H l1 (.lst [])) l2 (.lst [.non])) := Same.upd (Same.new h1) ((Same.new h1).free h2)
      exact k p H' (s2.trans s') (ln.from s2)
end
end Cut
set_option Elab.async false
set_option linter.all false
set_option maxRecDepth 100000
set_option maxHeartbeats 4000000
namespace Cut
open PySem L2 PyProof.Rows
section
variable {P : Program} {w : World} {K : PySem.W.Frag} {mg : Str → Option Value} {base : Heap} {C : Addr}
theorem e60 : (10 : Int) ^ 60 = 1000000000000000000000000000000000000000000000000000000000000 := by decide
def tFar : TS := fun D σ H => ∃ (a t : Addr) (far : Int) (v : V) (ps : List (Int × V)), σ = [some (.ref a), some (.ref t), some (.int far), none, none, none, none, none] ∧ ToldH H t v ps ∧ Rise ps ∧ Holds v ps ∧ ps.length ≤ 62 ∧ (∀ q ∈ ps, -20 ≤ q.1 ∧ q.1 ≤ 20 + 63 * 10000000000000000000000000) ∧
  ∀ (t' : Addr) (x3 : Option V) (H' : Hp) (ps' : List (Int × V)), Same H H' → ToldH H' t' v ps' → Rise ps' → Holds v ps' → BdP ps' → ps'.length = ps.length → D.nx [some (.ref a), some (.ref t'), some (.int far), x3, none, none, none, none] H'
def shiftP (st : Int) (ps : List (Int × V)) : List (Int × V) := ps.map fun q => (q.1 + st, q.2)
theorem shift_rise {st : Int} {ps : List (Int × V)} (h : Rise ps) : Rise (shiftP st ps) := by
  unfold Rise shiftP
  rw [List.pairwise_map]
  exact h.imp fun h => by show _ + st ≤ _ + st; omega
theorem shift_holds {st : Int} {v : V} {ps : List (Int × V)} (h : Holds v ps) : Holds v (shiftP st ps) := ⟨h.h0, fun z hz => by
  obtain ⟨q, hq, rfl⟩ := List.mem_map.mp hz
  exact h.hs q hq⟩
theorem shift_cuts (st : Int) (ps : List (Int × V)) : (cutsV ps).map (fun x => V.int (ivT x + st)) = cutsV (shiftP st ps) := by
  unfold cutsV shiftP
  rw [List.map_map, List.map_map]; rfl
theorem shift_holdsV (st : Int) (v : V) (ps : List (Int × V)) : holdsV v (shiftP st ps) = holdsV v ps := by
  show v :: (shiftP st ps).map (·.2) = v :: ps.map (·.2)
  unfold shiftP
  rw [List.map_map]; rfl
abbrev scF1 : Scope := { kind := .function, names := [(".0", .local), ("cut", .local), ("step", .free)], isGenerator := false, isCoroutine := false, more := [] }
theorem cs_f1 : CScope (defScope s_law) scF1 ["script", "told", "far", "step", "form", "line", "due", "found"] ["cut", "step"] [3] "cut" :=
  ⟨rfl, by decide +kernel, by decide +kernel, by decide +kernel, by decide +kernel, rfl, by decide +kernel, by decide +kernel, by decide +kernel, by decide +kernel⟩
theorem ok_law {f : Addr} {fd : FuncData} (F : Fun K "law" "law" s_law f fd) (T : Txt K mg C) (DC : Def P w K mg base "_law_cell_at" ["script", "k"] 1 (spCellAt K)) (DN : Def P w K mg base "_law_names" ["cell"] 1 spNames13)
    (DT : Def P w K mg base "_law_told" ["cells", "names"] 2 (spTold13 K)) (DF : Def P w K mg base "_law_form" ["told"] 2 (spForm K)) (DL : Def P w K mg base "line_of" ["cuts", "holds"] 3 (spLineOf K C)) (DX : Def P w K mg base "_law_text" ["form"] 2 (spLawText K))
    (DS : Def P w K mg base "shown" ["line"] 2 (spShown C)) (DLi : Def P w K mg base "_law_line" ["found", "due"] 2 (spLine K C)) (DR : Def P w K mg base "read" ["text"] 5 (spRead C)) : FnOk P w K mg base CX0 6 f fd ["script"] (spLaw K) := by
  refine F.ok sc_law (fun vs H Q E h => ?_) (fun cdv A outer s H vs Q E hr h => ?_)
  · obtain ⟨a, ns, rfl, _⟩ := h
    rfl
  · obtain ⟨a, ns, rfl, hS, hlen, k⟩ := h
    have hr1 : Room 1 _ := hr.mono (by decide)
    have hr2 : Room 2 _ := hr.mono (by decide)
    have hr3 : Room 3 _ := hr.mono (by decide)
    have hu := hu16 hr
    refine' ⟨_, pss_cons (ps_set (i := 1) sc_law.nd rfl (Or.inl rfl) ?d1)
      (pss_cons (ps_set (i := 2) sc_law.nd rfl (Or.inl rfl) ?d2)
      (pss_cons (ps_imp (t' := tFar) (ps_if ?e1 (pss_cons (ps_set (i := 3) sc_law.nd rfl (Or.inr rfl) ?e2) (pss_cons (ps_if ?e3 (pss_one (ps_set (i := 3) sc_law.nd rfl (Or.inr rfl) ?e4)) pss_nil) (pss_one (ps_set (i := 1) sc_law.nd rfl (Or.inl rfl) ?e5)))) pss_nil) ?ei)
      (pss_cons (ps_set (i := 4) sc_law.nd rfl (Or.inl rfl) (pe_callD DF hr2 rfl (pa_cons (pv 1) pa_nil)))
      (pss_cons (ps_set (i := 5) sc_law.nd rfl (Or.inl rfl) ?f1)
      (pss_cons (ps_set (i := 6) sc_law.nd rfl (Or.inl rfl) (pe_callD DX hr2 rfl (pa_cons (pv 4) pa_nil)))
      (pss_cons (ps_set (i := 7) sc_law.nd rfl (Or.inl rfl) (pe_callD DS hr2 rfl (pa_cons (pv 5) pa_nil)))
      (pss_cons (ps_if ?g1 (pss_one (ps_ret pe_bl)) pss_nil)
      (pss_one (ps_ret ?h1))))))))), ?rd⟩
    case d1 =>
      refine' pe_callD DT hr2 rfl (pa_cons ?x (pa_cons ?y pa_nil))
      case x => exact pe_slice sl_list (pv 0) (po_some pe_int) (po_some pe_int)
      case y => exact pe_callD DN hr1 rfl (pa_cons (pe_callD DC hr1 rfl (pa_cons (pv 0) (pa_cons pe_int pa_nil))) pa_nil)
    case d2 => exact pe_callD DC hr1 rfl (pa_cons (pv 0) (pa_cons pe_int pa_nil))
    case e1 => exact PW.pt (pw_and (pt_cmpR op_gt (pe_op op_mod (pv 2) pe_int) pe_int (nomark _)) (pw_and1 (pt_cmpR (op_neD hu) (pe_ix ix_tup (pv 1) pe_int (fun _ _ => rfl)) (pe_lst pa_nil) (nomark _))))
    case e2 =>
      refine' pe_op op_sub (pe_op op_sub (pe_op op_sub (pe_op op_pow pe_int pe_int) pe_int) ?x) ?y
      case x => exact pe_ix ix_list (pe_ix ix_tup (pv 1) pe_int (fun _ _ => rfl)) (pe_un un_neg pe_int) (fun _ _ => rfl)
      case y => exact pe_op op_mod (pe_op op_fdiv (pv 2) pe_int) pe_int
    case e3 => exact pt_cmpR op_eq (pe_op op_mod (pv 2) pe_int) pe_int (nomark _)
    case e4 =>
      refine' pe_op op_add (pe_op op_sub (pe_op op_sub pe_int (pe_op op_pow pe_int pe_int)) ?x) ?y
      case x => exact pe_ix ix_list (pe_ix ix_tup (pv 1) pe_int (fun _ _ => rfl)) pe_int (fun _ _ => rfl)
      case y => exact pe_op op_mod (pe_op op_fdiv (pv 2) pe_int) pe_int
    case e5 =>
      refine' pe_tup (pa_cons ?x (pa_cons (pe_ix ix_tup (pv 1) pe_int (fun _ _ => rfl)) pa_nil))
      case x =>
        refine' pe_comp cs_f1 rfl rfl rfl ?y1 ?y2 ?y3
        case y1 => exact pi_list (pe_ix ix_tup (pv 1) pe_int (fun _ _ => rfl))
        case y2 => exact fun _ _ _ _ _ => pf_nil
        case y3 => exact fun _ _ _ _ _ => pe_op op_add (pv 0) (pv 1)
    case f1 => exact pe_callD DL hr3 rfl (pa_cons (pe_callTy call_list_of rfl T.list boot_list (pa_cons (pe_ix ix_tup (pv 1) pe_int (fun _ _ => rfl)) pa_nil)) (pa_cons (pe_callTy call_list_of rfl T.list boot_list (pa_cons (pe_ix ix_tup (pv 1) pe_int (fun _ _ => rfl)) pa_nil)) pa_nil))
    case g1 =>
      refine' PW.pt (pw_or (pt_not (pt_val ?x)) (pw_or ?y (pw_or1 (pt_not (pt_val ?z)))))
      case x => exact pe_callB call_isinst rfl T.isinstance boot_isinstance (pa_cons (pv 7) (pa_cons (pe_bltn rfl T.str boot_strT (v := .ty "str") rfl) pa_nil))
      case y => exact pt_cmpR op_ne (pv 7) (pv 6) (nomark _)
      case z => exact pe_callD DLi hr2 rfl (pa_cons (pv 5) (pa_cons (pv 4) pa_nil))
    case h1 => exact pe_callD DLi hr2 rfl (pa_cons (pe_callD DR hr rfl (pa_cons (pv 6) pa_nil)) (pa_cons (pv 4) pa_nil))
    case ei =>
      rintro D σ H' ⟨a, t, far, v, ps, rfl, hT, rise, hh, hpl, hbd, kk⟩
      obtain ⟨c, d, gt, gc, gd⟩ := id hT
      have bd0 : BdP ps := fun q hq => by
        obtain ⟨h1, h2⟩ := hbd q hq
        unfold Bd
        rw [e60]
        constructor <;> omega
      refine ⟨_, rfl, _, _, rfl, rfl, (by show (0 : Int) < 4; decide), _, _, rfl, rfl, _, rfl, ite2 (fun _ => ?_) (fun _ => iteF (kk t none H' ps Same.refl hT rise hh bd0 rfl))⟩
      refine ⟨_, rfl, t, _, _, .ref c, rfl, rfl, SqT.of gt, atN (j := 0) rfl rfl, Nat.zero_le _, fun em hem => ?_⟩
      have r1 : Same H' (upd H' em (.lst [])) := Same.new hem
      have hE := eqd_flat (K := K) (SqL.of (r1 _ _ gc)) (SqL.of (upd_same (H := H') (a := em) (o := .lst []))) cuts_flat (fun y hy => nomatch hy)
      have hT' := hT.same r1
      have gt' := r1 _ _ gt
      have gc' := r1 _ _ gc
      have gd' := r1 _ _ gd
      generalize upd H' em (.lst []) = Hc at r1 hE gt' gc' gd' hT' ⊢
      rcases List.eq_nil_or_concat ps with e | ⟨r, q, e⟩
      · subst e
        exact ⟨1, _, by decide, hE, false, rfl, iteF (kk t none _ [] r1 hT' rise hh bd0 rfl)⟩
      · rw [List.concat_eq_append] at e
        have e0 : eqVs (cutsV ps) [] = false := by rw [e]; simp [eqVs]
        rw [e0] at hE
        have elast : atI (cutsV ps) (-1) = some (.int q.1) := by
          rw [e, cutsV_app]
          exact atI_last (cutsV r) (.int q.1)
        obtain ⟨q0, hq0⟩ : ∃ q0, ps[0]? = some q0 := ⟨ps[0]'(by rw [e, List.length_append]; exact Nat.lt_of_lt_of_le Nat.one_pos (Nat.le_add_left ..)), List.getElem?_eq_getElem _⟩
        have efirst : atI (cutsV ps) 0 = some (.int q0.1) := atN (j := 0) rfl (by unfold cutsV; rw [List.getElem?_map, hq0]; rfl)
        have hlast : ∀ z ∈ ps, z.1 ≤ q.1 := fun z hz => by
          rw [e] at hz rise
          rcases List.mem_append.mp hz with h | h
          · exact (List.pairwise_append.mp rise).2.2 z h q List.mem_cons_self
          · rw [List.mem_singleton.mp h]; exact Int.le_refl _
        have hfirst : ∀ z ∈ ps, q0.1 ≤ z.1 := fun z hz => by
          obtain ⟨j, hj⟩ := List.getElem?_of_mem hz
          cases j with
          | zero => rw [hq0] at hj; cases hj; exact Int.le_refl _
          | succ j =>
            obtain ⟨l1, e1⟩ := List.getElem?_eq_some_iff.mp hq0
            obtain ⟨l2, e2⟩ := List.getElem?_eq_some_iff.mp hj
            have := List.pairwise_iff_getElem.mp rise 0 (j + 1) l1 l2 (by omega)
            rw [e1, e2] at this
            exact this
        have hq : q ∈ ps := by rw [e]; exact List.mem_append_right _ List.mem_cons_self
        have hq0m : q0 ∈ ps := List.mem_of_getElem? hq0
        have j0 := Int.emod_nonneg (far / 4) (by decide : (5 : Int) ≠ 0)
        have j1 := Int.emod_lt_of_pos (far / 4) (by decide : (0 : Int) < 5)
        refine ⟨1, _, by decide, hE, true, rfl, iteT ?_⟩
        -- what the rest does with a step
        have rest : ∀ (st : Int), (∀ z ∈ ps, Bd (z.1 + st)) → ∀ (lc : Addr), Hc lc = none → ∀ (tn : Addr), (upd Hc lc (.lst ((cutsV ps).map fun x => V.int (ivT x + st)))) tn = none →
            D.nx [some (.ref a), some (.ref tn), some (.int far), some (.int st), none, none, none, none] (upd (upd Hc lc (.lst ((cutsV ps).map fun x => V.int (ivT x + st)))) tn (.tup [.ref lc, .ref d])) := fun st hst lc hlc tn htn => by
          rw [shift_cuts] at htn ⊢
          have s1 : Same Hc (upd Hc lc (.lst (cutsV (shiftP st ps)))) := Same.new hlc
          have s2 : Same Hc (upd (upd Hc lc (.lst (cutsV (shiftP st ps)))) tn (.tup [.ref lc, .ref d])) := Same.upd s1 (s1.free htn)
          have nct : lc ≠ tn := fun e => by rw [← e, upd_same] at htn; cases htn
          refine kk tn _ _ (shiftP st ps) (r1.trans s2) ⟨lc, d, upd_same, by rw [upd_ne nct, upd_same], by rw [shift_holdsV]; exact s2 _ _ gd'⟩ (shift_rise rise) (shift_holds hh) (fun z hz => ?_) (List.length_map ..)
          obtain ⟨y, hy, rfl⟩ := List.mem_map.mp hz
          exact hst y hy
        refine ⟨_, _, rfl, rfl, ⟨by decide, by decide, by decide⟩, _, _, rfl, rfl, _, rfl, t, _, _, .ref c, rfl, rfl, SqT.of gt', atN (j := 0) rfl rfl, _, rfl, c, _, _, .int q.1, rfl, rfl, SqL.of gc', elast, _, _, rfl, rfl, ?_⟩
        refine ⟨_, rfl, _, _, rfl, rfl, ⟨by decide, by decide⟩, _, _, rfl, rfl, (by show (0 : Int) < 5; decide), _, _, rfl, rfl, ?_⟩
        refine ⟨_, rfl, _, _, rfl, rfl, (by show (0 : Int) < 4; decide), rfl, _, rfl, ite2 (fun _ => ?_) (fun _ => ?_)⟩
        · refine ⟨_, _, rfl, rfl, ⟨by decide, by decide, by decide⟩, _, _, rfl, rfl, _, rfl, t, _, _, .ref c, rfl, rfl, SqT.of gt', atN (j := 0) rfl rfl, c, _, _, .int q0.1, rfl, rfl, SqL.of gc', efirst, _, _, rfl, rfl, ?_⟩
          refine ⟨_, rfl, _, _, rfl, rfl, ⟨by decide, by decide⟩, _, _, rfl, rfl, (by show (0 : Int) < 5; decide), _, _, rfl, rfl, ?_⟩
          refine ⟨_, rfl, t, _, _, .ref c, rfl, rfl, SqT.of gt', atN (j := 0) rfl rfl, c, rfl, ⟨_, SqL.of gc'⟩, ?_⟩
          refine comp_map (K := K) (js := [3]) (fun x => V.int (ivT x + (1 - (10 : Int) ^ (60 : Int).toNat - q0.1 + far / 4 % 5))) (SqL.of gc') ?q1 ?q2 ?q3
          case q1 => show (cutsV ps).length ≤ 2000; unfold cutsV; rw [List.length_map]; omega
          case q2 =>
            intro x H2 Q' hx s2 q'
            obtain ⟨z, _, rfl⟩ := List.mem_map.mp hx
            exact ⟨_, rfl, _, rfl, _, _, rfl, rfl, q'⟩
          case q3 =>
          intro lc hlc
          refine ⟨_, rfl, t, _, _, .ref d, rfl, rfl, Same.tup (Same.new hlc) (SqT.of gt'), atN (j := 1) rfl rfl, smallL (by show 2 ≤ 2000; decide), fun tn htn => ?_⟩
          refine rest _ (fun z hz => ?_) lc hlc tn htn
          have h1 := hbd z hz
          have h2 := hfirst z hz
          have h3 := hbd q0 hq0m
          unfold Bd
          rw [show (60 : Int).toNat = 60 from rfl, e60]
          constructor <;> omega
        · refine ⟨_, rfl, t, _, _, .ref c, rfl, rfl, SqT.of gt', atN (j := 0) rfl rfl, c, rfl, ⟨_, SqL.of gc'⟩, ?_⟩
          refine comp_map (K := K) (js := [3]) (fun x => V.int (ivT x + ((10 : Int) ^ (60 : Int).toNat - 1 - q.1 - far / 4 % 5))) (SqL.of gc') ?q1 ?q2 ?q3
          case q1 => show (cutsV ps).length ≤ 2000; unfold cutsV; rw [List.length_map]; omega
          case q2 =>
            intro x H2 Q' hx s2 q'
            obtain ⟨z, _, rfl⟩ := List.mem_map.mp hx
            exact ⟨_, rfl, _, rfl, _, _, rfl, rfl, q'⟩
          case q3 =>
          intro lc hlc
          refine ⟨_, rfl, t, _, _, .ref d, rfl, rfl, Same.tup (Same.new hlc) (SqT.of gt'), atN (j := 1) rfl rfl, smallL (by show 2 ≤ 2000; decide), fun tn htn => ?_⟩
          refine rest _ (fun z hz => ?_) lc hlc tn htn
          have h1 := hbd z hz
          have h2 := hlast z hz
          have h3 := hbd q hq
          unfold Bd
          rw [show (60 : Int).toNat = 60 from rfl, e60]
          constructor <;> omega
    case rd =>
    have ecut : cutV (ns.map V.int) (some 2) (some 102) = ((ns.drop 2).take 100).map V.int := by
      rw [show (2 : Int) = ((2 : Nat) : Int) from rfl, show (102 : Int) = ((102 : Nat) : Int) from rfl, cut_fromto, List.map_take, List.map_drop]
    refine ⟨_, rfl, _, rfl, _, rfl, a, _, rfl, hS, fun sl hsl => ?_⟩
    rw [ecut]
    have s0 : Same H (upd H sl (.lst (((ns.drop 2).take 100).map V.int))) := Same.new hsl
    have gsl : (upd H sl (.lst (((ns.drop 2).take 100).map V.int))) sl = some (.lst (((ns.drop 2).take 100).map V.int)) := upd_same
    generalize upd H sl (.lst (((ns.drop 2).take 100).map V.int)) = H0 at s0 gsl ⊢
    refine ⟨_, rfl, a, ns, 0, rfl, s0.seq hS, hlen, _, rfl, fun l H1 t1 t2 t3 w1 w2 w3 s1 hl gl => ?_⟩
    have hNm : Names K H1 l [.non, .str t1, .str t2, .str t3] := ⟨SqL.of gl, rfl, fun t ht => by
      simp only [List.mem_cons, List.not_mem_nil, or_false] at ht
      rcases ht with e | e | e | e <;> rw [e]
      · exact HV.non
      · exact HV.str t1 w1
      · exact HV.str t2 w2
      · exact HV.str t3 w3⟩
    refine ⟨sl, l, (ns.drop 2).take 100, _, rfl, SqL.of (s1 _ _ gsl), by rw [List.length_take, List.length_drop]; omega, hNm, fun t H3 v ps s3 tn rise holds hps hbd => ?_⟩
    have hpl : ps.length ≤ 62 := by rw [hps, List.length_take, List.length_drop]; omega
    have hT3 : ToldH H3 t v ps := by
      obtain ⟨ca, ho, _, _, _, _, gt, gca, gho⟩ := tn
      exact ⟨ca, ho, gt, gca, gho⟩
    have s03 := (s0.trans s1).trans s3
    refine ⟨_, rfl, a, ns, 1, rfl, s03.seq hS, hlen, ?_⟩
    refine ⟨a, t, _, v, ps, rfl, hT3, rise, holds, hpl, hbd, fun t' x3 H4 ps' s4 hT4 rise4 hh4 bd4 hl4 => ?_⟩
    clear hT3 hbd rise holds tn
    -- the form
    refine ⟨_, rfl, t', v, ps', rfl, hT4.at, hh4, rise4, by omega, fun du H5 s5 dn => ?_⟩
    have hfl : (formP v ps').length ≤ 62 := by have := form_len (v := v) (ps := ps'); omega
    have hD5 : ToldH H5 du v (formP v ps') := by
      obtain ⟨ca, ho, _, _, _, _, gt, gca, gho⟩ := dn
      exact ⟨ca, ho, gt, gca, gho⟩
    have hF : Form v (formP v ps') := Form.of rise4 hh4
    have hB : BdP (formP v ps') := fun q hq => bd4 q (form_mem hq)
    obtain ⟨ca, ho, gt, gca, gho⟩ := hT4.same s5
    -- the line
    refine ⟨_, rfl, t', _, _, .ref ca, rfl, rfl, SqT.of gt, atN (j := 0) rfl rfl, ca, _, rfl, .inl (SqL.of gca), fun l1 hl1 => ?_⟩
    have r1 : Same H5 (upd H5 l1 (.lst (cutsV ps'))) := Same.new hl1
    refine ⟨_, rfl, t', _, _, .ref ho, rfl, rfl, Same.tup r1 (SqT.of gt), atN (j := 1) rfl rfl, ho, _, rfl, .inl (r1.seq (SqL.of gho)), fun l2 hl2 => ?_⟩
    have r2 : Same H5 (upd (upd H5 l1 (.lst (cutsV ps'))) l2 (.lst (holdsV v ps'))) := Same.upd r1 (r1.free hl2)
    have n12 : l1 ≠ l2 := fun e => by rw [← e, upd_same] at hl2; cases hl2
    refine ⟨l1, l2, v, ps', rfl, SqL.of (by rw [upd_ne n12, upd_same]), SqL.of upd_same, hh4, by omega, fun p H6 r3 ln => ?_⟩
    have s56 : Same H5 H6 := r2.trans r3
    have hD6 := hD5.same s56
    -- due, found
    refine ⟨_, rfl, du, v, formP v ps', rfl, hD6, hF, hB, by omega, fun H7 s7 => ?_⟩
    refine ⟨_, rfl, p, v, formP v ps', rfl, ln.at.same s7, hF, hB, by omega, fun H8 s8 => ?_⟩
    have s68 := s7.trans s8
    refine ⟨_, rfl, _, _, _, _, true, rfl, .str _, rfl, kit_SS, true, rfl, iteN (by decide) ?_⟩
    refine ⟨_, rfl, _, rfl, rfl, _, rfl, iteNS rfl ?_⟩
    refine ⟨_, rfl, _, rfl, p, du, v, formP v ps', rfl, ln.at.same s68, (hD6.same s68).at, hF.hh, by omega, true, rfl, iteN (by decide) ?_⟩
    -- read
    refine ⟨_, rfl, v, formP v ps', rfl, hF, hB, by omega, fun p2 H9 s9 ln2 => ?_⟩
    exact ⟨_, rfl, p2, du, v, formP v ps', rfl, ln2.at, ((hD6.same s68).same s9).at, hF.hh, by omega, k _⟩
end
end Cut
set_option Elab.async false
set_option linter.all false
set_option maxRecDepth 100000
set_option maxHeartbeats 4000000
namespace Cut
open PySem L2 PyProof.Rows
theorem all_mk {l : PySem.W.OpenLaw} {w : World} {K : PySem.W.Frag} {h : Heap} {mg : Str → Option Value} {fa C f0 f1 f2 f3 f4 f5 f6 f7 f8 f9 f10 f11 f12 f13 f14 f15 f16 f17 f18 f19 f20 f21 f22 f23 : Addr} (X : K.In h) (G : h.Ns mainGlobals mg) (hfa : mg "law" = some (.ref fa))
    {od0 an0 od1 an1 od2 an2 od3 an3 od4 an4 od5 an5 od6 an6 od7 an7 od8 an8 od9 an9 od10 an10 od11 an11 od12 an12 od13 an13 od14 an14 od15 an15 od16 an16 od17 an17 od18 an18 od19 an19 od20 an20 od21 an21 od22 an22 od23 an23 : Option Addr} {sl0 sl1 sl2 sl3 sl4 sl5 sl6 sl7 sl8 sl9 sl10 sl11 sl12 sl13 sl14 sl15 sl16 sl17 sl18 sl19 sl20 sl21 sl22 sl23 : Array (Option Value)} {oc0 kV0 dc0 pm0 cd0 ct0 oc1 kV1 dc1 pm1 cd1 ct1 oc2 kV2 dc2 pm2 cd2 ct2 oc3 kV3 dc3 pm3 cd3 ct3 oc4 kV4 dc4 pm4 cd4 ct4 oc5 kV5 dc5 pm5 cd5 ct5 oc6 kV6 dc6 pm6 cd6 ct6 oc7 kV7 dc7 pm7 cd7 ct7 oc8 kV8 dc8 pm8 cd8 ct8 oc9 kV9 dc9 pm9 cd9 ct9 oc10 kV10 dc10 pm10 cd10 ct10 oc11 kV11 dc11 pm11 cd11 ct11 oc12 kV12 dc12 pm12 cd12 ct12 oc13 kV13 dc13 pm13 cd13 ct13 oc14 kV14 dc14 pm14 cd14 ct14 oc15 kV15 dc15 pm15 cd15 ct15 oc16 kV16 dc16 pm16 cd16 ct16 oc17 kV17 dc17 pm17 cd17 ct17 oc18 kV18 dc18 pm18 cd18 ct18 oc19 kV19 dc19 pm19 cd19 ct19 oc20 kV20 dc20 pm20 cd20 ct20 oc21 kV21 dc21 pm21 cd21 ct21 oc22 kV22 dc22 pm22 cd22 ct22 oc23 kV23 dc23 pm23 cd23 ct23 : Value}
    (aC : PySem.W.nsIn K mainGlobals "Line" = some (some (.ref C)))
    (a0 : PySem.W.findIn K (.ref C) "__init__" = some (some (.ref f0))) (i0 : PySem.W.isFn K (.ref f0) = true) (l0 : K.lookup f0 = some ⟨oc0, od0, .func (PySem.W.fnOf "__init__" "Line.__init__" (defArgs s_Line_init) (defBody s_Line_init) (defScope s_Line_init) .none kV0 dc0 pm0 an0 cd0 ct0), sl0⟩) (c0 : PySem.W.codeIn K cd0 "Line.__init__" = true) (k0 : PySem.W.keepIn K (.ref f0) = true)
    (a1 : PySem.W.nsIn K mainGlobals "own_copy" = some (some (.ref f1))) (l1 : K.lookup f1 = some ⟨oc1, od1, .func (PySem.W.fnOf "own_copy" "own_copy" (defArgs s_own_copy) (defBody s_own_copy) (defScope s_own_copy) .none kV1 dc1 pm1 an1 cd1 ct1), sl1⟩) (c1 : PySem.W.codeIn K cd1 "own_copy" = true) (k1 : PySem.W.keepIn K (.ref f1) = true)
    (a2 : PySem.W.nsIn K mainGlobals "line_of" = some (some (.ref f2))) (l2 : K.lookup f2 = some ⟨oc2, od2, .func (PySem.W.fnOf "line_of" "line_of" (defArgs s_line_of) (defBody s_line_of) (defScope s_line_of) .none kV2 dc2 pm2 an2 cd2 ct2), sl2⟩) (c2 : PySem.W.codeIn K cd2 "line_of" = true) (k2 : PySem.W.keepIn K (.ref f2) = true)
    (a3 : PySem.W.nsIn K mainGlobals "empty_line" = some (some (.ref f3))) (l3 : K.lookup f3 = some ⟨oc3, od3, .func (PySem.W.fnOf "empty_line" "empty_line" (defArgs s_empty_line) (defBody s_empty_line) (defScope s_empty_line) .none kV3 dc3 pm3 an3 cd3 ct3), sl3⟩) (c3 : PySem.W.codeIn K cd3 "empty_line" = true) (k3 : PySem.W.keepIn K (.ref f3) = true)
    (a4 : PySem.W.nsIn K mainGlobals "shown_run" = some (some (.ref f4))) (l4 : K.lookup f4 = some ⟨oc4, od4, .func (PySem.W.fnOf "shown_run" "shown_run" (defArgs s_shown_run) (defBody s_shown_run) (defScope s_shown_run) .none kV4 dc4 pm4 an4 cd4 ct4), sl4⟩) (c4 : PySem.W.codeIn K cd4 "shown_run" = true) (k4 : PySem.W.keepIn K (.ref f4) = true)
    (a5 : PySem.W.nsIn K mainGlobals "shown" = some (some (.ref f5))) (l5 : K.lookup f5 = some ⟨oc5, od5, .func (PySem.W.fnOf "shown" "shown" (defArgs s_shown) (defBody s_shown) (defScope s_shown) .none kV5 dc5 pm5 an5 cd5 ct5), sl5⟩) (c5 : PySem.W.codeIn K cd5 "shown" = true) (k5 : PySem.W.keepIn K (.ref f5) = true)
    (a6 : PySem.W.nsIn K mainGlobals "figures_of" = some (some (.ref f6))) (l6 : K.lookup f6 = some ⟨oc6, od6, .func (PySem.W.fnOf "figures_of" "figures_of" (defArgs s_figures_of) (defBody s_figures_of) (defScope s_figures_of) .none kV6 dc6 pm6 an6 cd6 ct6), sl6⟩) (c6 : PySem.W.codeIn K cd6 "figures_of" = true) (k6 : PySem.W.keepIn K (.ref f6) = true)
    (a7 : PySem.W.nsIn K mainGlobals "place_read" = some (some (.ref f7))) (l7 : K.lookup f7 = some ⟨oc7, od7, .func (PySem.W.fnOf "place_read" "place_read" (defArgs s_place_read) (defBody s_place_read) (defScope s_place_read) .none kV7 dc7 pm7 an7 cd7 ct7), sl7⟩) (c7 : PySem.W.codeIn K cd7 "place_read" = true) (k7 : PySem.W.keepIn K (.ref f7) = true)
    (a8 : PySem.W.nsIn K mainGlobals "is_value" = some (some (.ref f8))) (l8 : K.lookup f8 = some ⟨oc8, od8, .func (PySem.W.fnOf "is_value" "is_value" (defArgs s_is_value) (defBody s_is_value) (defScope s_is_value) .none kV8 dc8 pm8 an8 cd8 ct8), sl8⟩) (c8 : PySem.W.codeIn K cd8 "is_value" = true) (k8 : PySem.W.keepIn K (.ref f8) = true)
    (a9 : PySem.W.nsIn K mainGlobals "run_read" = some (some (.ref f9))) (l9 : K.lookup f9 = some ⟨oc9, od9, .func (PySem.W.fnOf "run_read" "run_read" (defArgs s_run_read) (defBody s_run_read) (defScope s_run_read) .none kV9 dc9 pm9 an9 cd9 ct9), sl9⟩) (c9 : PySem.W.codeIn K cd9 "run_read" = true) (k9 : PySem.W.keepIn K (.ref f9) = true)
    (a10 : PySem.W.nsIn K mainGlobals "check_order" = some (some (.ref f10))) (l10 : K.lookup f10 = some ⟨oc10, od10, .func (PySem.W.fnOf "check_order" "check_order" (defArgs s_check_order) (defBody s_check_order) (defScope s_check_order) .none kV10 dc10 pm10 an10 cd10 ct10), sl10⟩) (c10 : PySem.W.codeIn K cd10 "check_order" = true) (k10 : PySem.W.keepIn K (.ref f10) = true)
    (a11 : PySem.W.nsIn K mainGlobals "line_through" = some (some (.ref f11))) (l11 : K.lookup f11 = some ⟨oc11, od11, .func (PySem.W.fnOf "line_through" "line_through" (defArgs s_line_through) (defBody s_line_through) (defScope s_line_through) .none kV11 dc11 pm11 an11 cd11 ct11), sl11⟩) (c11 : PySem.W.codeIn K cd11 "line_through" = true) (k11 : PySem.W.keepIn K (.ref f11) = true)
    (a12 : PySem.W.nsIn K mainGlobals "read" = some (some (.ref f12))) (l12 : K.lookup f12 = some ⟨oc12, od12, .func (PySem.W.fnOf "read" "read" (defArgs s_read) (defBody s_read) (defScope s_read) .none kV12 dc12 pm12 an12 cd12 ct12), sl12⟩) (c12 : PySem.W.codeIn K cd12 "read" = true) (k12 : PySem.W.keepIn K (.ref f12) = true)
    (a13 : PySem.W.nsIn K mainGlobals "_law_cell_at" = some (some (.ref f13))) (l13 : K.lookup f13 = some ⟨oc13, od13, .func (PySem.W.fnOf "_law_cell_at" "_law_cell_at" (defArgs s_law_cell_at) (defBody s_law_cell_at) (defScope s_law_cell_at) .none kV13 dc13 pm13 an13 cd13 ct13), sl13⟩) (c13 : PySem.W.codeIn K cd13 "_law_cell_at" = true) (k13 : PySem.W.keepIn K (.ref f13) = true)
    (a14 : PySem.W.nsIn K mainGlobals "_law_names" = some (some (.ref f14))) (l14 : K.lookup f14 = some ⟨oc14, od14, .func (PySem.W.fnOf "_law_names" "_law_names" (defArgs s_law_names) (defBody s_law_names) (defScope s_law_names) .none kV14 dc14 pm14 an14 cd14 ct14), sl14⟩) (c14 : PySem.W.codeIn K cd14 "_law_names" = true) (k14 : PySem.W.keepIn K (.ref f14) = true)
    (a15 : PySem.W.nsIn K mainGlobals "_law_told" = some (some (.ref f15))) (l15 : K.lookup f15 = some ⟨oc15, od15, .func (PySem.W.fnOf "_law_told" "_law_told" (defArgs s_law_told) (defBody s_law_told) (defScope s_law_told) .none kV15 dc15 pm15 an15 cd15 ct15), sl15⟩) (c15 : PySem.W.codeIn K cd15 "_law_told" = true) (k15 : PySem.W.keepIn K (.ref f15) = true)
    (a16 : PySem.W.nsIn K mainGlobals "_law_at" = some (some (.ref f16))) (l16 : K.lookup f16 = some ⟨oc16, od16, .func (PySem.W.fnOf "_law_at" "_law_at" (defArgs s_law_at) (defBody s_law_at) (defScope s_law_at) .none kV16 dc16 pm16 an16 cd16 ct16), sl16⟩) (c16 : PySem.W.codeIn K cd16 "_law_at" = true) (k16 : PySem.W.keepIn K (.ref f16) = true)
    (a17 : PySem.W.nsIn K mainGlobals "_law_form" = some (some (.ref f17))) (l17 : K.lookup f17 = some ⟨oc17, od17, .func (PySem.W.fnOf "_law_form" "_law_form" (defArgs s_law_form) (defBody s_law_form) (defScope s_law_form) .none kV17 dc17 pm17 an17 cd17 ct17), sl17⟩) (c17 : PySem.W.codeIn K cd17 "_law_form" = true) (k17 : PySem.W.keepIn K (.ref f17) = true)
    (a18 : PySem.W.nsIn K mainGlobals "_law_whole" = some (some (.ref f18))) (l18 : K.lookup f18 = some ⟨oc18, od18, .func (PySem.W.fnOf "_law_whole" "_law_whole" (defArgs s_law_whole) (defBody s_law_whole) (defScope s_law_whole) .none kV18 dc18 pm18 an18 cd18 ct18), sl18⟩) (c18 : PySem.W.codeIn K cd18 "_law_whole" = true) (k18 : PySem.W.keepIn K (.ref f18) = true)
    (a19 : PySem.W.nsIn K mainGlobals "_law_held" = some (some (.ref f19))) (l19 : K.lookup f19 = some ⟨oc19, od19, .func (PySem.W.fnOf "_law_held" "_law_held" (defArgs s_law_held) (defBody s_law_held) (defScope s_law_held) .none kV19 dc19 pm19 an19 cd19 ct19), sl19⟩) (c19 : PySem.W.codeIn K cd19 "_law_held" = true) (k19 : PySem.W.keepIn K (.ref f19) = true)
    (a20 : PySem.W.nsIn K mainGlobals "_law_line" = some (some (.ref f20))) (l20 : K.lookup f20 = some ⟨oc20, od20, .func (PySem.W.fnOf "_law_line" "_law_line" (defArgs s_law_line) (defBody s_law_line) (defScope s_law_line) .none kV20 dc20 pm20 an20 cd20 ct20), sl20⟩) (c20 : PySem.W.codeIn K cd20 "_law_line" = true) (k20 : PySem.W.keepIn K (.ref f20) = true)
    (a21 : PySem.W.nsIn K mainGlobals "_law_end_text" = some (some (.ref f21))) (l21 : K.lookup f21 = some ⟨oc21, od21, .func (PySem.W.fnOf "_law_end_text" "_law_end_text" (defArgs s_law_end_text) (defBody s_law_end_text) (defScope s_law_end_text) .none kV21 dc21 pm21 an21 cd21 ct21), sl21⟩) (c21 : PySem.W.codeIn K cd21 "_law_end_text" = true) (k21 : PySem.W.keepIn K (.ref f21) = true)
    (a22 : PySem.W.nsIn K mainGlobals "_law_text" = some (some (.ref f22))) (l22 : K.lookup f22 = some ⟨oc22, od22, .func (PySem.W.fnOf "_law_text" "_law_text" (defArgs s_law_text) (defBody s_law_text) (defScope s_law_text) .none kV22 dc22 pm22 an22 cd22 ct22), sl22⟩) (c22 : PySem.W.codeIn K cd22 "_law_text" = true) (k22 : PySem.W.keepIn K (.ref f22) = true)
    (a23 : PySem.W.nsIn K mainGlobals "law" = some (some (.ref f23))) (l23 : K.lookup f23 = some ⟨oc23, od23, .func (PySem.W.fnOf "law" "law" (defArgs s_law) (defBody s_law) (defScope s_law) .none kV23 dc23 pm23 an23 cd23 ct23), sl23⟩) (c23 : PySem.W.codeIn K cd23 "law" = true) (k23 : PySem.W.keepIn K (.ref f23) = true)
    (pg : PySem.W.plainGet K C Str.empty = true) (hd : PySem.W.hasDictIn K C = true) (po : PySem.W.plainOver K C = true) (sa : PySem.W.findIn K (.ref C) "__setattr__" = some (some (.builtin "object.__setattr__"))) (mk : PySem.W.makesIn K C = true) (kc : PySem.W.keepIn K (.ref C) = true)
    (nC : PySem.W.findIn K (.ref C) "cuts" = some none) (nH : PySem.W.findIn K (.ref C) "holds" = some none)
    {tk_LONGEST_VALUE tk_MOST_FIGURES : Tok}
    (i_LONGEST_VALUE : PySem.W.nsIn K mainGlobals "LONGEST_VALUE" = some (some (.int 12 tk_LONGEST_VALUE)))
    (i_MOST_FIGURES : PySem.W.nsIn K mainGlobals "MOST_FIGURES" = some (some (.int 60 tk_MOST_FIGURES)))
    (z_len : PySem.W.nsIn K mainGlobals "len" = some none)
    (z_range : PySem.W.nsIn K mainGlobals "range" = some none)
    (z_enumerate : PySem.W.nsIn K mainGlobals "enumerate" = some none)
    (z_isinstance : PySem.W.nsIn K mainGlobals "isinstance" = some none)
    (z_list : PySem.W.nsIn K mainGlobals "list" = some none)
    (z_tuple : PySem.W.nsIn K mainGlobals "tuple" = some none)
    (z_dict : PySem.W.nsIn K mainGlobals "dict" = some none)
    (z_str : PySem.W.nsIn K mainGlobals "str" = some none)
    (z_int : PySem.W.nsIn K mainGlobals "int" = some none)
    (z_bool : PySem.W.nsIn K mainGlobals "bool" = some none)
    (z_set : PySem.W.nsIn K mainGlobals "set" = some none)
    (z_sorted : PySem.W.nsIn K mainGlobals "sorted" = some none)
    (z_max : PySem.W.nsIn K mainGlobals "max" = some none)
    (z_min : PySem.W.nsIn K mainGlobals "min" = some none)
    (z_reversed : PySem.W.nsIn K mainGlobals "reversed" = some none)
    (z_zip : PySem.W.nsIn K mainGlobals "zip" = some none)
    (z_all : PySem.W.nsIn K mainGlobals "all" = some none)
    (y1 : PySem.W.findIn K (.ref C) "__class__" = some (some (.builtin "object.__class__"))) (y2 : PySem.W.specialIn K (.builtin "object.__class__") "__get__" = some (some (.builtin "getset_descriptor.__get__"))) (y3 : PySem.W.takesIn K (.builtin "object.__class__") = some true) (y4 : PySem.W.mroIn K C (.type "object") = some true) :
    ∃ fd : FuncData, (∀ (s : Shared) (v : Value), BindsTo s fd ⟨[v], []⟩ [("script", v)]) ∧ ∀ base : Heap, K.In base → base.Ns mainGlobals mg → FnOk l.prog w K mg base CX0 6 fa fd ["script"] (spLaw K) := by
  have e := hfa.symm.trans (PySem.W.mg_of X G a23)
  cases e
  have T : Txt K mg C := ⟨⟨pg, hd, po, sa⟩, nC, nH, PySem.W.mg_of X G aC, PySem.W.mg_none_of X G z_len, PySem.W.mg_none_of X G z_range, PySem.W.mg_none_of X G z_enumerate, PySem.W.mg_none_of X G z_isinstance, PySem.W.mg_none_of X G z_list, PySem.W.mg_none_of X G z_tuple, PySem.W.mg_none_of X G z_dict, PySem.W.mg_none_of X G z_str, PySem.W.mg_none_of X G z_int, PySem.W.mg_none_of X G z_bool, PySem.W.mg_none_of X G z_set, PySem.W.mg_none_of X G z_sorted, PySem.W.mg_none_of X G z_max, PySem.W.mg_none_of X G z_min, PySem.W.mg_none_of X G z_reversed, y1, y2, y3, y4⟩
  have n_LONGEST_VALUE : mg "LONGEST_VALUE" = some (.int 12 tk_LONGEST_VALUE) := PySem.W.mg_of X G i_LONGEST_VALUE
  have n_MOST_FIGURES : mg "MOST_FIGURES" = some (.int 60 tk_MOST_FIGURES) := PySem.W.mg_of X G i_MOST_FIGURES
  have e_zip : mg "zip" = none := PySem.W.mg_none_of X G z_zip
  have e_all : mg "all" = none := PySem.W.mg_none_of X G z_all
  have F0 := fun_mk (st := s_Line_init) l0 c0 k0
  have F1 := fun_mk (st := s_own_copy) l1 c1 k1
  have F2 := fun_mk (st := s_line_of) l2 c2 k2
  have F3 := fun_mk (st := s_empty_line) l3 c3 k3
  have F4 := fun_mk (st := s_shown_run) l4 c4 k4
  have F5 := fun_mk (st := s_shown) l5 c5 k5
  have F6 := fun_mk (st := s_figures_of) l6 c6 k6
  have F7 := fun_mk (st := s_place_read) l7 c7 k7
  have F8 := fun_mk (st := s_is_value) l8 c8 k8
  have F9 := fun_mk (st := s_run_read) l9 c9 k9
  have F10 := fun_mk (st := s_check_order) l10 c10 k10
  have F11 := fun_mk (st := s_line_through) l11 c11 k11
  have F12 := fun_mk (st := s_read) l12 c12 k12
  have F13 := fun_mk (st := s_law_cell_at) l13 c13 k13
  have F14 := fun_mk (st := s_law_names) l14 c14 k14
  have F15 := fun_mk (st := s_law_told) l15 c15 k15
  have F16 := fun_mk (st := s_law_at) l16 c16 k16
  have F17 := fun_mk (st := s_law_form) l17 c17 k17
  have F18 := fun_mk (st := s_law_whole) l18 c18 k18
  have F19 := fun_mk (st := s_law_held) l19 c19 k19
  have F20 := fun_mk (st := s_law_line) l20 c20 k20
  have F21 := fun_mk (st := s_law_end_text) l21 c21 k21
  have F22 := fun_mk (st := s_law_text) l22 c22 k22
  have F23 := fun_mk (st := s_law) l23 c23 k23
  have b0 := F0.binds (ps := ["self", "cuts", "holds"]) fun _ _ _ _ _ _ us hl => match us, hl with | [_, _, _], _ => rfl
  have b1 := F1.binds (ps := ["thing"]) fun _ _ _ _ _ _ us hl => match us, hl with | [_], _ => rfl
  have b2 := F2.binds (ps := ["cuts", "holds"]) fun _ _ _ _ _ _ us hl => match us, hl with | [_, _], _ => rfl
  have b3 := F3.binds (ps := []) fun _ _ _ _ _ _ us hl => match us, hl with | [], _ => rfl
  have b4 := F4.binds (ps := ["start", "end", "value"]) fun _ _ _ _ _ _ us hl => match us, hl with | [_, _, _], _ => rfl
  have b5 := F5.binds (ps := ["line"]) fun _ _ _ _ _ _ us hl => match us, hl with | [_], _ => rfl
  have b6 := F6.binds (ps := ["text"]) fun _ _ _ _ _ _ us hl => match us, hl with | [_], _ => rfl
  have b7 := F7.binds (ps := ["text"]) fun _ _ _ _ _ _ us hl => match us, hl with | [_], _ => rfl
  have b8 := F8.binds (ps := ["text"]) fun _ _ _ _ _ _ us hl => match us, hl with | [_], _ => rfl
  have b9 := F9.binds (ps := ["text"]) fun _ _ _ _ _ _ us hl => match us, hl with | [_], _ => rfl
  have b10 := F10.binds (ps := ["found"]) fun _ _ _ _ _ _ us hl => match us, hl with | [_], _ => rfl
  have b11 := F11.binds (ps := ["found"]) fun _ _ _ _ _ _ us hl => match us, hl with | [_], _ => rfl
  have b12 := F12.binds (ps := ["text"]) fun _ _ _ _ _ _ us hl => match us, hl with | [_], _ => rfl
  have b13 := F13.binds (ps := ["script", "k"]) fun _ _ _ _ _ _ us hl => match us, hl with | [_, _], _ => rfl
  have b14 := F14.binds (ps := ["cell"]) fun _ _ _ _ _ _ us hl => match us, hl with | [_], _ => rfl
  have b15 := F15.binds (ps := ["cells", "names"]) fun _ _ _ _ _ _ us hl => match us, hl with | [_, _], _ => rfl
  have b16 := F16.binds (ps := ["told", "place"]) fun _ _ _ _ _ _ us hl => match us, hl with | [_, _], _ => rfl
  have b17 := F17.binds (ps := ["told"]) fun _ _ _ _ _ _ us hl => match us, hl with | [_], _ => rfl
  have b18 := F18.binds (ps := ["found"]) fun _ _ _ _ _ _ us hl => match us, hl with | [_], _ => rfl
  have b19 := F19.binds (ps := ["found", "due"]) fun _ _ _ _ _ _ us hl => match us, hl with | [_, _], _ => rfl
  have b20 := F20.binds (ps := ["found", "due"]) fun _ _ _ _ _ _ us hl => match us, hl with | [_, _], _ => rfl
  have b21 := F21.binds (ps := ["place"]) fun _ _ _ _ _ _ us hl => match us, hl with | [_], _ => rfl
  have b22 := F22.binds (ps := ["form"]) fun _ _ _ _ _ _ us hl => match us, hl with | [_], _ => rfl
  refine ⟨PySem.W.fnOf "law" "law" (defArgs s_law) (defBody s_law) (defScope s_law) .none kV23 dc23 pm23 an23 cd23 ct23, fun s v => .of_eq rfl, fun base _ _ => ?_⟩
  have M : Mk K C f0 := ⟨mk, a0, i0, kc⟩
  have GI : FnOk l.prog w K mg base CX0 1 f0 _ ["self", "cuts", "holds"] (spInit C) := ok_init F0 T
  have DO : Def l.prog w K mg base "own_copy" ["thing"] 1 (spOwn) := ⟨⟨f1, _, PySem.W.mg_of X G a1, k1, b1, ok_own F1 T⟩⟩
  have DL : Def l.prog w K mg base "line_of" ["cuts", "holds"] 3 (spLineOf K C) := ⟨⟨f2, _, PySem.W.mg_of X G a2, k2, b2, ok_line_of F2 T M GI b0 DO⟩⟩
  have DE : Def l.prog w K mg base "empty_line" [] 4 (spEmpty C) := ⟨⟨f3, _, PySem.W.mg_of X G a3, k3, b3, ok_empty F3 DL⟩⟩
  have DSR : Def l.prog w K mg base "shown_run" ["start", "end", "value"] 1 (spShownRun) := ⟨⟨f4, _, PySem.W.mg_of X G a4, k4, b4, ok_shown_run F4 ⟩⟩
  have DS : Def l.prog w K mg base "shown" ["line"] 2 (spShown C) := ⟨⟨f5, _, PySem.W.mg_of X G a5, k5, b5, ok_shown F5 T e_zip DSR⟩⟩
  have DFi : Def l.prog w K mg base "figures_of" ["text"] 1 (spFigures) := ⟨⟨f6, _, PySem.W.mg_of X G a6, k6, b6, ok_figures F6 ⟩⟩
  have DPl : Def l.prog w K mg base "place_read" ["text"] 2 (spPlace) := ⟨⟨f7, _, PySem.W.mg_of X G a7, k7, b7, ok_place F7 T n_MOST_FIGURES DFi⟩⟩
  have DV : Def l.prog w K mg base "is_value" ["text"] 1 (spIsValue) := ⟨⟨f8, _, PySem.W.mg_of X G a8, k8, b8, ok_is_value F8 T e_all n_LONGEST_VALUE⟩⟩
  have DRR : Def l.prog w K mg base "run_read" ["text"] 3 (spRunRead) := ⟨⟨f9, _, PySem.W.mg_of X G a9, k9, b9, ok_run_read F9 T DV DPl⟩⟩
  have DOr : Def l.prog w K mg base "check_order" ["found"] 1 (spOrder) := ⟨⟨f10, _, PySem.W.mg_of X G a10, k10, b10, ok_order F10 e_zip⟩⟩
  have DTh : Def l.prog w K mg base "line_through" ["found"] 4 (spThrough C) := ⟨⟨f11, _, PySem.W.mg_of X G a11, k11, b11, ok_through F11 DL⟩⟩
  have DR : Def l.prog w K mg base "read" ["text"] 5 (spRead C) := ⟨⟨f12, _, PySem.W.mg_of X G a12, k12, b12, ok_read F12 T DE DRR DOr DTh DS⟩⟩
  have DC : Def l.prog w K mg base "_law_cell_at" ["script", "k"] 1 (spCellAt K) := ⟨⟨f13, _, PySem.W.mg_of X G a13, k13, b13, ok_cell_at F13 T⟩⟩
  have DN : Def l.prog w K mg base "_law_names" ["cell"] 1 (spNames13) := ⟨⟨f14, _, PySem.W.mg_of X G a14, k14, b14, ok_names F14 T⟩⟩
  have DT : Def l.prog w K mg base "_law_told" ["cells", "names"] 2 (spTold13 K) := ⟨⟨f15, _, PySem.W.mg_of X G a15, k15, b15, ok_told F15 T DC⟩⟩
  have DA : Def l.prog w K mg base "_law_at" ["told", "place"] 1 (spAt K) := ⟨⟨f16, _, PySem.W.mg_of X G a16, k16, b16, ok_at F16 T⟩⟩
  have DFo : Def l.prog w K mg base "_law_form" ["told"] 2 (spForm K) := ⟨⟨f17, _, PySem.W.mg_of X G a17, k17, b17, ok_form F17 T DA⟩⟩
  have DW : Def l.prog w K mg base "_law_whole" ["found"] 1 (spWhole) := ⟨⟨f18, _, PySem.W.mg_of X G a18, k18, b18, ok_whole F18 T⟩⟩
  have DH : Def l.prog w K mg base "_law_held" ["found", "due"] 1 (spHeld) := ⟨⟨f19, _, PySem.W.mg_of X G a19, k19, b19, ok_held F19 T⟩⟩
  have DLi : Def l.prog w K mg base "_law_line" ["found", "due"] 2 (spLine K C) := ⟨⟨f20, _, PySem.W.mg_of X G a20, k20, b20, ok_line F20 T DW DH⟩⟩
  have DET : Def l.prog w K mg base "_law_end_text" ["place"] 1 (spEndText) := ⟨⟨f21, _, PySem.W.mg_of X G a21, k21, b21, ok_end_text F21 T⟩⟩
  have DX : Def l.prog w K mg base "_law_text" ["form"] 2 (spLawText K) := ⟨⟨f22, _, PySem.W.mg_of X G a22, k22, b22, ok_law_text F22 T DET⟩⟩
  exact ok_law F23 T DC DN DT DFo DL DX DS DLi DR
theorem walk {l : PySem.W.OpenLaw} {q : Program} {loose : List Str} {XP : (Str → Option Value) → Heap → Prop} {YP : World → Heap → Prop} {d : DefRec} {K : Params → PySem.W.Frag} (hn : l.most = some 63) (hdf : d.params.defaults = [])
    (hY : ∀ (w : World) (h : Heap), YP w h → (K w.params).In h)
    (F : ∀ (w : World) (mg : Str → Option Value) (fa : Addr) (h : Heap), (K w.params).In h → h.Ns mainGlobals mg → mg d.name = some (.ref fa) →
      ∃ fd : FuncData, (∀ (s : Shared) (u : Value), BindsTo s fd ⟨[u], []⟩ [("script", u)]) ∧ ∀ base : Heap, (K w.params).In base → base.Ns mainGlobals mg → FnOk l.prog w (K w.params) mg base CX0 6 fa fd ["script"] (spLaw (K w.params))) :
    PySem.W.WalkO q loose XP YP l.row.toRowW d [] (fun f vs => PySem.call f vs) :=
  L2.walk_of (n := 63) (k := 6) (x := "script") (CX := fun _ => CX0) (sp := fun w => spLaw (K w.params)) hn (by decide) hdf ⟨rfl, by decide, by decide⟩ hY F (fun _ _ a ns hl _ hS => ⟨a, ns, rfl, hS, hl, fun _ => rfl⟩) fun _ _ _ _ _ z => z
end Cut
open PySem PySem.W PyProof.Rows
set_option maxRecDepth 100000 in
set_option maxHeartbeats 0 in
theorem PySem.Challenge.cw_cutline_k13_lines_written_holds : PySem.Challenge.rw_cutline_k13_lines_written.Holds := by
  w_on; o_law; k_head; (case hw => w_witness2)
  k_fill
  refine Cut.walk (l := PySem.Challenge.rw_cutline_k13_lines_written) rfl rfl (fun w h Y => PySem.W.kIn_of Y) ?F
  case F =>
    intro w mg fa h KX G hmg
    refine' Cut.all_mk KX G hmg ?aC ?a0 ?i0 ?l0 ?c0 ?k0 ?a1 ?l1 ?c1 ?k1 ?a2 ?l2 ?c2 ?k2 ?a3 ?l3 ?c3 ?k3 ?a4 ?l4 ?c4 ?k4 ?a5 ?l5 ?c5 ?k5 ?a6 ?l6 ?c6 ?k6 ?a7 ?l7 ?c7 ?k7 ?a8 ?l8 ?c8 ?k8 ?a9 ?l9 ?c9 ?k9 ?a10 ?l10 ?c10 ?k10 ?a11 ?l11 ?c11 ?k11 ?a12 ?l12 ?c12 ?k12 ?a13 ?l13 ?c13 ?k13 ?a14 ?l14 ?c14 ?k14 ?a15 ?l15 ?c15 ?k15 ?a16 ?l16 ?c16 ?k16 ?a17 ?l17 ?c17 ?k17 ?a18 ?l18 ?c18 ?k18 ?a19 ?l19 ?c19 ?k19 ?a20 ?l20 ?c20 ?k20 ?a21 ?l21 ?c21 ?k21 ?a22 ?l22 ?c22 ?k22 ?a23 ?l23 ?c23 ?k23 ?pg ?hd ?po ?sa ?mk ?kc ?nC ?nH ?i_LONGEST_VALUE ?i_MOST_FIGURES ?z_len ?z_range ?z_enumerate ?z_isinstance ?z_list ?z_tuple ?z_dict ?z_str ?z_int ?z_bool ?z_set ?z_sorted ?z_max ?z_min ?z_reversed ?z_zip ?z_all ?y1 ?y2 ?y3 ?y4
    (case aC => k_is)
    (case a0 => k_is)
    (case i0 => k_is)
    (case l0 => k_is)
    (case c0 => k_is)
    (case k0 => k_is)
    (case a1 => k_is)
    (case l1 => k_is)
    (case c1 => k_is)
    (case k1 => k_is)
    (case a2 => k_is)
    (case l2 => k_is)
    (case c2 => k_is)
    (case k2 => k_is)
    (case a3 => k_is)
    (case l3 => k_is)
    (case c3 => k_is)
    (case k3 => k_is)
    (case a4 => k_is)
    (case l4 => k_is)
    (case c4 => k_is)
    (case k4 => k_is)
    (case a5 => k_is)
    (case l5 => k_is)
    (case c5 => k_is)
    (case k5 => k_is)
    (case a6 => k_is)
    (case l6 => k_is)
    (case c6 => k_is)
    (case k6 => k_is)
    (case a7 => k_is)
    (case l7 => k_is)
    (case c7 => k_is)
    (case k7 => k_is)
    (case a8 => k_is)
    (case l8 => k_is)
    (case c8 => k_is)
    (case k8 => k_is)
    (case a9 => k_is)
    (case l9 => k_is)
    (case c9 => k_is)
    (case k9 => k_is)
    (case a10 => k_is)
    (case l10 => k_is)
    (case c10 => k_is)
    (case k10 => k_is)
    (case a11 => k_is)
    (case l11 => k_is)
    (case c11 => k_is)
    (case k11 => k_is)
    (case a12 => k_is)
    (case l12 => k_is)
    (case c12 => k_is)
    (case k12 => k_is)
    (case a13 => k_is)
    (case l13 => k_is)
    (case c13 => k_is)
    (case k13 => k_is)
    (case a14 => k_is)
    (case l14 => k_is)
    (case c14 => k_is)
    (case k14 => k_is)
    (case a15 => k_is)
    (case l15 => k_is)
    (case c15 => k_is)
    (case k15 => k_is)
    (case a16 => k_is)
    (case l16 => k_is)
    (case c16 => k_is)
    (case k16 => k_is)
    (case a17 => k_is)
    (case l17 => k_is)
    (case c17 => k_is)
    (case k17 => k_is)
    (case a18 => k_is)
    (case l18 => k_is)
    (case c18 => k_is)
    (case k18 => k_is)
    (case a19 => k_is)
    (case l19 => k_is)
    (case c19 => k_is)
    (case k19 => k_is)
    (case a20 => k_is)
    (case l20 => k_is)
    (case c20 => k_is)
    (case k20 => k_is)
    (case a21 => k_is)
    (case l21 => k_is)
    (case c21 => k_is)
    (case k21 => k_is)
    (case a22 => k_is)
    (case l22 => k_is)
    (case c22 => k_is)
    (case k22 => k_is)
    (case a23 => k_is)
    (case l23 => k_is)
    (case c23 => k_is)
    (case k23 => k_is)
    (case pg => k_is)
    (case hd => k_is)
    (case po => k_is)
    (case sa => k_is)
    (case mk => k_is)
    (case kc => k_is)
    (case nC => k_is)
    (case nH => k_is)
    (case i_LONGEST_VALUE => k_is)
    (case i_MOST_FIGURES => k_is)
    (case z_len => k_is)
    (case z_range => k_is)
    (case z_enumerate => k_is)
    (case z_isinstance => k_is)
    (case z_list => k_is)
    (case z_tuple => k_is)
    (case z_dict => k_is)
    (case z_str => k_is)
    (case z_int => k_is)
    (case z_bool => k_is)
    (case z_set => k_is)
    (case z_sorted => k_is)
    (case z_max => k_is)
    (case z_min => k_is)
    (case z_reversed => k_is)
    (case z_zip => k_is)
    (case z_all => k_is)
    (case y1 => k_is)
    (case y2 => k_is)
    (case y3 => k_is)
    (case y4 => k_is)
