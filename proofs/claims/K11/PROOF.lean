import PyProof.Rows.All
import Wide.All
import OpenK.AllK
import Wide.FinOn
import Lean
import PyProof.EqAt
import PyProof.EqKinds
import PyProof.TupleCall
import PySem.Challenge.RW_parkrow_k11_texts
import KE.KTryMore
import KE.KRevSl
import PyProof.Rows.StrSplitJoin
import PyProof.Rows.FStr
import PyProof.FString
import KE.KIntText
set_option Elab.async false
set_option linter.all false
set_option maxRecDepth 100000
set_option maxHeartbeats 4000000
namespace L2
open PySem PySem.Spec PyProof.Rows

/-- a key: an int or a str -/
abbrev Key := Sum Int Str
def keyIs : Key → Value → Bool
  | .inl k, v => Value.isInt k v
  | .inr x, v => Value.isStrOf x v
def keyH (w : World) : Key → Int
  | .inl k => hashInt k
  | .inr x => hashStr w x
theorem keyIs_shape : ∀ {k : Key} {v : Value}, keyIs k v = true → (∃ i t, k = Sum.inl i ∧ v = Value.int i t) ∨ (∃ x t, k = Sum.inr x ∧ v = Value.str x t)
  | .inl i, v, h => by
    obtain ⟨t, e⟩ := Value.isInt_shape (k := i) (v := v) h
    exact .inl ⟨i, t, rfl, e⟩
  | .inr x, v, h => by
    obtain ⟨t, e⟩ := Value.isStrOf_shape (x := x) (v := v) h
    exact .inr ⟨x, t, rfl, e⟩
theorem key_ll (a b : Int) : decide ((Sum.inl a : Key) = Sum.inl b) = (a == b) := by
  by_cases e : a = b
  · subst e; simp
  · have h : ¬ (Sum.inl a : Key) = Sum.inl b := fun q => e (Sum.inl.inj q)
    rw [decide_eq_false h]
    exact (beq_eq_false_iff_ne.mpr e).symm
theorem key_rr (a b : Str) : decide ((Sum.inr a : Key) = Sum.inr b) = decide (a = b) := by
  by_cases e : a = b
  · subst e; simp
  · have h : ¬ (Sum.inr a : Key) = Sum.inr b := fun q => e (Sum.inr.inj q)
    rw [decide_eq_false h, decide_eq_false e]
theorem key_lr (a : Int) (b : Str) : decide ((Sum.inl a : Key) = Sum.inr b) = false := decide_eq_false (fun q => nomatch q)
theorem key_rl (a : Str) (b : Int) : decide ((Sum.inr a : Key) = Sum.inl b) = false := decide_eq_false (fun q => nomatch q)

def mixKind (prog : Program) (w : World) : PySem.KeyKind prog w Key where
  is := keyIs
  hash := keyH w
  inj := fun v a b ha hb => by
    rcases keyIs_shape ha with ⟨i, t, rfl, rfl⟩ | ⟨x, t, rfl, rfl⟩
    · rcases keyIs_shape hb with ⟨j, u, rfl, e⟩ | ⟨y, u, rfl, e⟩
      · injection e with e1 _; rw [e1]
      · exact nomatch e
    · rcases keyIs_shape hb with ⟨j, u, rfl, e⟩ | ⟨y, u, rfl, e⟩
      · exact nomatch e
      · injection e with e1 _; rw [e1]
  byValue := fun k v h => by
    rcases keyIs_shape h with ⟨i, t, rfl, rfl⟩ | ⟨x, t, rfl, rfl⟩ <;> rfl
  pyHash := fun hv h => by
    rcases keyIs_shape hv with ⟨i, t, rfl, rfl⟩ | ⟨x, t, rfl, rfl⟩
    · exact wpAny_pyHash_int h
    · exact wpAny_pyHash_str h
  eqBool := fun hu hv h => by
    rcases keyIs_shape hu with ⟨i, t, rfl, rfl⟩ | ⟨x, t, rfl, rfl⟩
    · rcases keyIs_shape hv with ⟨j, u, rfl, rfl⟩ | ⟨y, u, rfl, rfl⟩
      · rw [key_ll] at h; exact wpAny_eqBool_int h
      · rw [key_lr] at h; exact SeqAt.EqAt.int_str i t y u _ _ _ _ h
    · rcases keyIs_shape hv with ⟨j, u, rfl, rfl⟩ | ⟨y, u, rfl, rfl⟩
      · rw [key_rl] at h; exact SeqAt.EqAt.str_int x t j u _ _ _ _ h
      · rw [key_rr] at h; exact wpAny_eqBool_str h
  «strs» := fun k x t v h => by
    rcases keyIs_shape h with ⟨i, u, rfl, e⟩ | ⟨y, u, rfl, e⟩
    · exact nomatch e
    · injection e with e1 _
      subst e1
      cases v <;> rfl

end L2

namespace L2
open PySem PySem.Spec PyProof.Rows

/-- a value, without the heap -/
inductive V where
  | non | bl (b : Bool) | int (i : Int) | str (x : Str) | byt (b : Array UInt8) | flt (b : UInt64) | ref (a : Addr) | ty (n : String)
  deriving DecidableEq

def RelV : V → Value → Prop
  | .non, u => u = Value.none
  | .bl b, u => u = Value.bool b
  | .int i, u => ∃ t, u = Value.int i t
  | .str x, u => ∃ t, u = Value.str x t
  | .byt b, u => ∃ t, u = Value.bytes b t
  | .flt b, u => ∃ t, u = Value.float b t
  | .ref a, u => u = Value.ref a
  | .ty n, u => u = Value.type n

abbrev Vals : List V → List Value → Prop := Paired RelV
theorem Vals.length {xs : List V} {us : List Value} (r : Vals xs us) : xs.length = us.length := Paired.length r
theorem Vals.get : ∀ {xs : List V} {us : List Value} {i : Nat} {x : V}, Vals xs us → xs[i]? = some x → ∃ u, us[i]? = some u ∧ RelV x u
  | _, _, _, _, .nil, e => by simp at e
  | _, _, 0, _, .cons r _, e => by simp at e; subst e; exact ⟨_, rfl, r⟩
  | _, _, i + 1, x, .cons _ t, e => by
    obtain ⟨u, h1, h2⟩ := Vals.get (i := i) (x := x) t (by simpa using e)
    exact ⟨u, by simpa using h1, h2⟩
theorem Vals.set {x : V} {u : Value} (r : RelV x u) : ∀ {xs : List V} {us : List Value} (i : Nat), Vals xs us → Vals (xs.set i x) (us.set i u)
  | _, _, _, .nil => .nil
  | _, _, 0, .cons _ t => .cons r t
  | _, _, i + 1, .cons q t => .cons q (Vals.set r i t)
theorem Vals.append : ∀ {xs ys : List V} {us ws : List Value}, Vals xs us → Vals ys ws → Vals (xs ++ ys) (us ++ ws)
  | _, _, _, _, .nil, s => s
  | _, _, _, _, .cons r t, s => .cons r (Vals.append t s)
theorem Vals.take : ∀ {xs : List V} {us : List Value} (n : Nat), Vals xs us → Vals (xs.take n) (us.take n)
  | _, _, 0, _ => .nil
  | _, _, _ + 1, .nil => .nil
  | _, _, n + 1, .cons r t => .cons r (Vals.take n t)
theorem Vals.drop : ∀ {xs : List V} {us : List Value} (n : Nat), Vals xs us → Vals (xs.drop n) (us.drop n)
  | _, _, 0, r => r
  | _, _, _ + 1, .nil => .nil
  | _, _, n + 1, .cons _ t => Vals.drop n t
theorem Vals.none_of : ∀ {xs : List V} {us : List Value} {i : Nat}, Vals xs us → xs[i]? = none → us[i]? = none := fun {xs us i} r e => by
  have h1 := r.length
  have h2 : xs.length ≤ i := List.getElem?_eq_none_iff.mp e
  exact List.getElem?_eq_none_iff.mpr (by omega)

def RelO : Option V → Option Value → Prop
  | some v, some u => RelV v u
  | none, none => True
  | _, _ => False
def KV {κ : Type} : List (κ × V) → List (κ × Value) → Prop := Paired fun (p : κ × V) (q : κ × Value) => p.1 = q.1 ∧ RelV p.2 q.2

/-- a key of a dict (00_mix): an int or a text -/
def kV : Key → V
  | .inl i => .int i
  | .inr x => .str x

/-- what stands at a tracked address -/
inductive HO where
  /-- a list -/
  | lst (xs : List V)
  /-- a tuple (never changes) -/
  | tup (xs : List V)
  /-- a dict whose keys are ints and texts; one whose keys are tuples of ints and texts (the empty one is both) -/
  | dK (kvs : List (Key × V)) | dT (kvs : List (List Key × V))
  /-- a set of ints: its members, its size -/
  | set (S : Int → Bool) (n : Nat)
  /-- an instance of the class at C, its dict at dx, its attributes -/
  | ins (C dx : Addr) (fs : List (Str × V))
  /-- the dict of the instance at x -/
  | own (x : Addr)
  /-- the dict of an exception -/
  | xd (fs : List (Str × V))
  /-- a bound method, f of x -/
  | met (f x : Addr)
  /-- a range object lo, lo + 1, .. below hi -/
  | rng (lo hi : Int)
  /-- a thing that is known to the object (the script; a dict while a loop walks it): read, never written while it is so -/
  | frz (o : Obj) (u : HO)
  /-- a code object's table -/
  | tbl (ps : Array Value)
  /-- any other thing, by what is true of its one object (a def of one's own: SetO a S n := HO.ext fun h => ..) -/
  | ext (φ : Heap → Prop)

abbrev Hp := Addr → Option HO
def upd (H : Hp) (a : Addr) (o : HO) : Hp := fun b => if b = a then some o else H b
theorem upd_same {H : Hp} {a : Addr} {o : HO} : upd H a o a = some o := by unfold upd; rw [if_pos rfl]
theorem upd_ne {H : Hp} {a b : Addr} {o : HO} (h : b ≠ a) : upd H a o b = H b := by unfold upd; rw [if_neg h]
theorem upd_upd {H : Hp} {a : Addr} {o u : HO} : upd (upd H a o) a u = upd H a u := by
  funext b; unfold upd; split <;> rfl
theorem ne_of_none {H : Hp} {a b : Addr} {o : HO} (h : H a = some o) (h' : H b = none) : a ≠ b := by
  intro e; subst e; rw [h] at h'; cases h'

section
variable (P : Program) (w : World)
def ObjOk (H : Hp) (h : Heap) (a : Addr) : HO → Prop
  | .lst xs => xs.length ≤ sizeLine ∧ ∃ (its : List Value) (n : Nat), Vals xs its ∧ h.get? a = some { cls := .type "list", data := .seq its.toArray n }
  | .tup xs => xs.length ≤ sizeLine ∧ ∃ its : List Value, Vals xs its ∧ IsTup h a its.toArray
  | .dK kvs => kvs.length ≤ sizeLine ∧ (a == sysModules) = false ∧ ∃ vs, KV kvs vs ∧ h.DictOf (mixKind P w) a vs
  | .dT kvs => kvs.length ≤ sizeLine ∧ (a == sysModules) = false ∧ ∃ xs : List (List Key × Addr × Value),
      Paired (fun (p : List Key × V) (q : List Key × Addr × Value) => p.1 = q.1 ∧ H q.2.1 = some (.tup (p.1.map kV)) ∧ RelV p.2 q.2.2) kvs xs ∧
      ∃ o es ep, h.get? a = some o ∧ o.ExactDict ∧ o.data = .dict es ep ∧ es.toList = xs.map (entryOfKey (tupleKind (mixKind P w))) ∧ (xs.map (·.1)).Nodup
  | .set S n => h.SetOf (intKind P w) a S n
  | .ins C dx fs => H dx = some (.own a) ∧ fs.length ≤ 1000 ∧ dx ≠ a ∧ h.get? a = some (PySem.W.instObj C dx) ∧
      ∃ mA, h.Ns1 dx mA ∧ (∀ f, RelO (fs.lookup f) (mA f)) ∧ PySem.Within mA (fs.map (·.1))
  | .own _ => ∃ o, h.get? a = some o
  | .xd fs => ∃ mA, h.Ns1 a mA ∧ ∀ f, RelO (fs.lookup f) (mA f)
  | .rng lo hi => ∃ t u v, h.get? a = some { cls := .type "range", data := .fields #[.int lo t, .int hi u, .int 1 v] }
  | .frz o u => h.get? a = some o ∧ ObjOk H h a u
  | .tbl ps => h.get? a = some { cls := .none, data := .fields ps }
  | .met f x => h.get? a = some (PySem.W.methodObj (.ref f) (.ref x))
  | .ext φ => φ h ∧ (∃ o, h.get? a = some o) ∧ ∀ h1 h2 : Heap, φ h1 → (∀ o, h1.get? a = some o → h2.get? a = some o) → φ h2
/-- the abstract heap is held -/
def HOk (H : Hp) (h : Heap) : Prop := ∀ a o, H a = some o → ObjOk P w H h a o
end

section
variable {P : Program} {w : World} {H H' : Hp} {h h' : Heap} {a : Addr} {o : HO}
theorem ObjOk.lt (x : ObjOk P w H h a o) : a < h.objs.size := by
  cases o with
  | lst xs => obtain ⟨_, _, _, _, e⟩ := x; exact Heap.lt_size e
  | tup xs => obtain ⟨_, _, _, p⟩ := x; exact p.lt
  | dK kvs => obtain ⟨_, _, _, _, o, _, _, e, _⟩ := x; exact Heap.lt_size e
  | dT kvs => obtain ⟨_, _, _, _, o, _, _, e, _⟩ := x; exact Heap.lt_size e
  | set S n => obtain ⟨o, _, _, _, e, _⟩ := x; exact Heap.lt_size e
  | ins C dx fs => obtain ⟨_, _, _, e, _⟩ := x; exact Heap.lt_size e
  | own y => obtain ⟨_, e⟩ := x; exact Heap.lt_size e
  | xd fs => obtain ⟨_, ⟨_, _, _, e, _⟩, _⟩ := x; exact Heap.lt_size e
  | rng lo hi => obtain ⟨_, _, _, e⟩ := x; exact Heap.lt_size e
  | frz ob u => obtain ⟨e, _⟩ := x; exact Heap.lt_size e
  | tbl ps => exact Heap.lt_size (show h.get? a = some _ from x)
  | met f y => exact Heap.lt_size (show h.get? a = some _ from x)
  | ext φ => obtain ⟨_, ⟨_, e⟩, _⟩ := x; exact Heap.lt_size e
theorem Paired.mapP {α β : Type} {F G : α → β → Prop} : ∀ {l₁ : List α} {l₂ : List β}, Paired F l₁ l₂ → (∀ a b, F a b → G a b) → Paired G l₁ l₂
  | _, _, .nil, _ => .nil
  | _, _, .cons r t, f => .cons (f _ _ r) (Paired.mapP t f)
/-- what an object's description leans on: its own object, its own dict, the tuples -/
theorem ObjOk.stay (x : ObjOk P w H h a o) (k : ∀ b u, (b = a ∨ H b = some (.own a)) → h.get? b = some u → h'.get? b = some u)
    (ho : ∀ b, H b = some (.own a) → H' b = some (.own a)) (ht : ∀ b xs, H b = some (.tup xs) → H' b = some (.tup xs)) : ObjOk P w H' h' a o := by
  induction o with
  | lst xs => obtain ⟨z, its, n, r, e⟩ := x; exact ⟨z, its, n, r, k _ _ (.inl rfl) e⟩
  | tup xs => obtain ⟨z, its, r, ob, e, c⟩ := x; exact ⟨z, its, r, ob, k _ _ (.inl rfl) e, c⟩
  | dK kvs => obtain ⟨z, y, vs, r, ob, es, ep, e, c⟩ := x; exact ⟨z, y, vs, r, ob, es, ep, k _ _ (.inl rfl) e, c⟩
  | dT kvs =>
    obtain ⟨z, y, xs, r, ob, es, ep, e, c⟩ := x
    exact ⟨z, y, xs, Paired.mapP r fun p q z => ⟨z.1, ht _ _ z.2.1, z.2.2⟩, ob, es, ep, k _ _ (.inl rfl) e, c⟩
  | set S n => obtain ⟨ob, es, ep, t, e, c⟩ := x; exact ⟨ob, es, ep, t, k _ _ (.inl rfl) e, c⟩
  | ins C dx fs =>
    obtain ⟨d, z, ne, e, mA, ⟨od, es, ep, e2, c⟩, r⟩ := x
    exact ⟨ho _ d, z, ne, k _ _ (.inl rfl) e, mA, ⟨od, es, ep, k _ _ (.inr d) e2, c⟩, r⟩
  | own y => obtain ⟨ob, e⟩ := x; exact ⟨ob, k _ _ (.inl rfl) e⟩
  | xd fs => obtain ⟨mA, ⟨od, es, ep, e, c⟩, r⟩ := x; exact ⟨mA, ⟨od, es, ep, k _ _ (.inl rfl) e, c⟩, r⟩
  | rng lo hi => obtain ⟨t, u, v, e⟩ := x; exact ⟨t, u, v, k _ _ (.inl rfl) e⟩
  | frz ob u ih => obtain ⟨e, q⟩ := x; exact ⟨k _ _ (.inl rfl) e, ih q⟩
  | tbl ps =>
    have e : h.get? a = some { cls := .none, data := .fields ps } := x
    show h'.get? a = some { cls := .none, data := .fields ps }
    exact k a _ (.inl rfl) e
  | met f y =>
    have e : h.get? a = some (PySem.W.methodObj (.ref f) (.ref y)) := x
    show h'.get? a = some (PySem.W.methodObj (.ref f) (.ref y))
    exact k a _ (.inl rfl) e
  | ext φ => obtain ⟨p, ⟨o, e⟩, st⟩ := x; exact ⟨st _ _ p fun o q => k _ _ (.inl rfl) q, ⟨o, k _ _ (.inl rfl) e⟩, st⟩
theorem HOk.lt (x : HOk P w H h) (e : H a = some o) : a < h.objs.size := (x a o e).lt
theorem HOk.fresh (x : HOk P w H h) (e : h.objs.size ≤ a) : H a = none := by
  cases q : H a with
  | none => rfl
  | some u => exact absurd (Nat.lt_of_lt_of_le (x.lt q) e) (Nat.lt_irrefl _)
/-- every object of the heap is kept -/
theorem HOk.kept (x : HOk P w H h) (k : ∀ b u, h.get? b = some u → h'.get? b = some u) : HOk P w H h' := fun a o e =>
  (x a o e).stay (fun b u _ q => k b u q) (fun _ q => q) fun _ _ q => q
/-- a new object is laid and tracked -/
theorem HOk.laid (x : HOk P w H h) (k : ∀ b u, h.get? b = some u → h'.get? b = some u) (hp : h.objs.size ≤ a) (new : ObjOk P w (upd H a o) h' a o) : HOk P w (upd H a o) h' := fun b u e => by
  have hn := x.fresh hp
  by_cases hb : b = a
  · subst hb; rw [upd_same] at e; cases e; exact new
  · rw [upd_ne hb] at e
    exact (x b u e).stay (fun c v _ q => k c v q) (fun c q => by rw [upd_ne (ne_of_none q hn)]; exact q) fun c xs q => by rw [upd_ne (ne_of_none q hn)]; exact q
end

/-- what may be read as u: it is u, or a known u -/
def Rd (H : Hp) (a : Addr) (u : HO) : Prop := H a = some u ∨ ∃ o, H a = some (.frz o u)
theorem Rd.of {H : Hp} {a : Addr} {u : HO} (h : H a = some u) : Rd H a u := .inl h
theorem Rd.ok {P : Program} {w : World} {H : Hp} {h : Heap} {a : Addr} {u : HO} (r : Rd H a u) (x : HOk P w H h) : ObjOk P w H h a u := by
  rcases r with r | ⟨o, r⟩
  · exact x a u r
  · obtain ⟨_, q⟩ := x a _ r
    exact q
/-- what may be written -/
def Mut : Option HO → Prop
  | some (.lst _) => True
  | some (.dK _) => True
  | some (.dT _) => True
  | some (.set _ _) => True
  | some (.ins _ _ _) => True
  | some (.ext _) => True
  | _ => False
section
variable {P : Program} {w : World} {H : Hp} {h h' : Heap} {x e : Addr} {o' : HO}
/-- the object at e is changed: x itself, or the dict of the instance x -/
theorem HOk.write (ok : HOk P w H h) (mu : Mut (H x)) (he : e = x ∨ H e = some (.own x)) (k : ∀ b u, b ≠ e → h.get? b = some u → h'.get? b = some u) (heo : ∃ u, h'.get? e = some u)
    (new : ObjOk P w (upd H x o') h' x o') : HOk P w (upd H x o') h' := fun b u q => by
  have nown : ∀ c y, H c = some (.own y) → c ≠ x := fun c y r z => by subst z; rw [r] at mu; exact mu
  have ntup : ∀ c xs, H c = some (.tup xs) → c ≠ x := fun c xs r z => by subst z; rw [r] at mu; exact mu
  by_cases hb : b = x
  · subst hb; rw [upd_same] at q; cases q; exact new
  · rw [upd_ne hb] at q
    by_cases hbe : b = e
    · have q' : H b = some (.own x) := by
        rcases he with z | z
        · exact absurd (hbe.trans z) hb
        · rw [hbe]; exact z
      rw [q] at q'; cases q'
      obtain ⟨v, hv⟩ := heo
      exact ⟨v, by rw [hbe]; exact hv⟩
    · refine (ok b u q).stay (fun c v hc r => k c v ?_ r) (fun c r => by rw [upd_ne (nown c b r)]; exact r) fun c xs r => by rw [upd_ne (ntup c xs r)]; exact r
      rcases hc with rfl | hc
      · exact hbe
      · rintro rfl
        rcases he with z | z
        · exact nown c b hc z
        · rw [hc] at z; cases z; exact hb rfl
end

/-! ### kept unless tracked; of the frames at fs (the callers') the slots may change (an exception that passes writes there); of the records at ex (iterators) nothing is said -/
structure Un (fs ex : List Addr) (H H' : Hp) (h h' : Heap) : Prop where
  keep : ∀ b o, h.get? b = some o → H b = none → b ∉ fs → b ∉ ex → h'.get? b = some o
  slot : ∀ b o, h.get? b = some o → H b = none → b ∈ fs → b ∉ ex → ∃ sl, h'.get? b = some { o with slots := sl }
  free : ∀ b o, h.get? b = some o → H b = none → b ∉ ex → H' b = none
  there : ∀ b o, h.get? b = some o → b ∉ ex → ∃ o', h'.get? b = some o'
  tups : ∀ b xs, H b = some (.tup xs) → H' b = some (.tup xs)
  frzs : ∀ b o u, H b = some (.frz o u) → H' b = some (.frz o u)
  tbls : ∀ b ps, H b = some (.tbl ps) → ∃ more, H' b = some (.tbl (ps ++ more))
section
variable {fs fs' ex ex' : List Addr} {H H1 H2 : Hp} {h h1 h2 h' : Heap} {a x e : Addr} {o : HO}
theorem Un.any (u : Un fs ex H H1 h h1) {b : Addr} {ob : Obj} (q : h.get? b = some ob) (n : H b = none) (hx : b ∉ ex) : ∃ sl, h1.get? b = some { ob with slots := sl } := by
  by_cases hb : b ∈ fs
  · exact u.slot b ob q n hb hx
  · exact ⟨ob.slots, u.keep b ob q n hb hx⟩
theorem Un.trans (a : Un fs ex H H1 h h1) (b : Un fs ex H1 H2 h1 h2) : Un fs ex H H2 h h2 where
  keep := fun c ob q n hc hx => b.keep c ob (a.keep c ob q n hc hx) (a.free c ob q n hx) hc hx
  slot := fun c ob q n hc hx => by
    obtain ⟨sl, e1⟩ := a.slot c ob q n hc hx
    obtain ⟨sl', e2⟩ := b.slot c _ e1 (a.free c ob q n hx) hc hx
    exact ⟨sl', e2⟩
  free := fun c ob q n hx => by
    obtain ⟨o', e1⟩ := a.there c ob q hx
    exact b.free c o' e1 (a.free c ob q n hx) hx
  there := fun c ob q hx => by
    obtain ⟨o', e1⟩ := a.there c ob q hx
    exact b.there c o' e1 hx
  tups := fun c xs q => b.tups c xs (a.tups c xs q)
  frzs := fun c ob xs q => b.frzs c ob xs (a.frzs c ob xs q)
  tbls := fun c ps q => by
    obtain ⟨m1, e1⟩ := a.tbls c ps q
    obtain ⟨m2, e2⟩ := b.tbls c _ e1
    exact ⟨m1 ++ m2, by rw [e2, Array.append_assoc]⟩
theorem Un.kept (k : ∀ b u, h.get? b = some u → h'.get? b = some u) : Un fs ex H H h h' :=
  ⟨fun b ob q _ _ _ => k b ob q, fun b ob q _ _ _ => ⟨ob.slots, k b ob q⟩, fun _ _ _ n _ => n, fun b ob q _ => ⟨ob, k b ob q⟩, fun _ _ q => q, fun _ _ _ q => q, fun _ ps q => ⟨#[], by rw [q]; simp⟩⟩
theorem Un.refl : Un fs ex H H h h := Un.kept fun _ _ q => q
theorem Un.laid (k : ∀ b u, h.get? b = some u → h'.get? b = some u) (hp : h.objs.size ≤ a) (hn : H a = none) : Un fs ex H (upd H a o) h h' where
  keep := fun b u q _ _ _ => k b u q
  slot := fun b u q _ _ _ => ⟨u.slots, k b u q⟩
  free := fun b u q n _ => by rw [upd_ne (Nat.ne_of_lt (Nat.lt_of_lt_of_le (Heap.lt_size q) hp))]; exact n
  there := fun b u q _ => ⟨u, k b u q⟩
  tups := fun b xs q => by rw [upd_ne (ne_of_none q hn)]; exact q
  frzs := fun b u xs q => by rw [upd_ne (ne_of_none q hn)]; exact q
  tbls := fun b ps q => ⟨#[], by rw [upd_ne (ne_of_none q hn), q]; simp⟩
theorem Un.write (mu : Mut (H x)) (he : e = x ∨ H e = some (.own x)) (k : ∀ b u, b ≠ e → h.get? b = some u → h'.get? b = some u) (heo : ∃ u, h'.get? e = some u) : Un fs ex H (upd H x o) h h' := by
  have hx : ∀ b, H b = none → b ≠ x := fun b n z => by subst z; rw [n] at mu; exact mu
  have hb : ∀ b, H b = none → b ≠ e := fun b n z => by
    subst z
    rcases he with r | r
    · exact hx b n r
    · rw [n] at r; cases r
  have hm : ∀ b u, H b = some u → ¬ Mut (some u) → b ≠ x := fun b u q nm z => by subst z; rw [q] at mu; exact nm mu
  refine ⟨fun b u q n _ _ => k b u (hb b n) q, fun b u q n _ _ => ⟨u.slots, k b u (hb b n) q⟩, fun b u q n _ => by rw [upd_ne (hx b n)]; exact n, fun b u q _ => ?_,
    fun b xs q => by rw [upd_ne (hm b _ q fun z => z)]; exact q, fun b u xs q => by rw [upd_ne (hm b _ q fun z => z)]; exact q, fun b ps q => ⟨#[], by rw [upd_ne (hm b _ q fun z => z), q]; simp⟩⟩
  by_cases hbe : b = e
  · subst hbe; exact heo
  · exact ⟨u, k b u hbe q⟩
theorem Un.mono (u : Un fs ex H H1 h h1) (hs : ∀ b ∈ fs, b ∈ fs') (hx : ∀ b ∈ ex, b ∈ ex') : Un fs' ex' H H1 h h1 :=
  ⟨fun b ob q n hb he => u.keep b ob q n (fun z => hb (hs b z)) fun z => he (hx b z), fun _ _ q n _ he => u.any q n fun z => he (hx _ z), fun b ob q n he => u.free b ob q n fun z => he (hx b z), fun b ob q he => u.there b ob q fun z => he (hx b z), u.tups, u.frzs, u.tbls⟩
end

/-! ### the heap without what is tracked -/
def trk (h : Heap) (H : Hp) : List Addr := (List.range h.objs.size).filter fun a => (H a).isSome
def hidT (h : Heap) (H : Hp) : Heap := PySem.W.hideAll h (trk h H)
theorem hidT_size (h : Heap) (H : Hp) : (hidT h H).objs.size = h.objs.size := PySem.W.hideAll_size _ _
theorem hidT_get {h : Heap} {H : Hp} {b : Addr} {o : Obj} (e : h.get? b = some o) (n : H b = none) : (hidT h H).get? b = some o :=
  PySem.W.hideAll_get _ e fun hm => by
    have q : (H b).isSome = true := (List.mem_filter.mp hm).2
    rw [n] at q; simp at q
theorem of_hidT {h : Heap} {H : Hp} {b : Addr} {o : Obj} (e : (hidT h H).get? b = some o) : h.get? b = some o ∧ H b = none := by
  have e' : h.get? b = some o := PySem.W.of_hideAll (trk h H) e
  refine ⟨e', ?_⟩
  cases q : H b with
  | none => rfl
  | some x =>
    have hm : b ∈ trk h H := List.mem_filter.mpr ⟨List.mem_range.mpr (Heap.lt_size e'), by simp [q]⟩
    have z : (hidT h H).get? b = none := PySem.W.hideAll_none (trk h H) hm
    rw [z] at e; cases e

/-! ### OpenK's ledger, filled with every new object but one -/
def allNews (g h : Heap) (L : Addr) : List (Addr × Obj) := (List.range h.objs.size).filterMap fun a => if a = L ∨ (g.get? a).isSome = true then none else (h.get? a).map fun o => (a, o)
def rest (g h : Heap) (L d : Addr) : List (Addr × Obj) := (allNews g h L).filter fun p => decide (p.1 ≠ d)
end L2

namespace L2
open PySem PySem.Spec PyProof.Rows

/-- the module's facts, over the base: the heap at the law's entry without what is tracked there -/
structure Mod (K : PySem.W.Frag) (mg : Str → Option Value) (base : Heap) : Prop where
  kin : K.In base
  glob : base.Ns mainGlobals mg
  blt : ∃ mb, base.Ns builtinsNs mb ∧ ∀ x : Str, x ≠ "__name__" → mb x = bootBuiltins x
  nolimit : base.NoLimit

/-- the context: a def's body (or a comprehension's block) running. base: fixed through the whole law; s₀, H₀: the entry; outer: the frames whose slots others may change (a def's callers); stack: all frames that run;
   ex: iterators that were made ahead of the entry and are walked here (a comprehension's); fn: the names whose cells were made at the entry (a def: all; a comprehension's block: its own); calm: not within an except suite; pn: pins that every state bears; xe: what is wanted of an exception that leaves the code -/
structure Cx where
  prog : Program
  w : World
  K : PySem.W.Frag
  mg : Str → Option Value
  base : Heap
  A : Around
  N : List Str
  s₀ : Shared
  H₀ : Hp
  env : Env
  outer : List Env
  stack : List Env
  ex : List Addr
  fn : Str → Bool
  calm : Bool
  pn : List (Addr × Obj)
  xe : Value → Shared → Prop
/-- the callers' frames -/
def frs (l : List Env) : List Addr := l.filterMap (·.frame)
abbrev Cx.fs (X : Cx) : List Addr := frs X.outer

def Vis (sc : Scope) (x : Str) : Prop := sc.names.lookup x = some .local ∨ sc.names.lookup x = some .cell ∨ sc.names.lookup x = some .free
def Loc (sc : Scope) (x : Str) : Prop := sc.names.lookup x = some .local ∨ sc.names.lookup x = some .cell
def Look (env : Env) (h : Heap) (m : Str → Option Value) (x : Str) (u : Value) : Prop :=
  (env.kindOf x = some .local ∧ m x = some u) ∨ ((env.kindOf x = some .cell ∨ env.kindOf x = some .free) ∧ ∃ c, env.cells.lookup x = some c ∧ h.IsCell c (some u))

structure Cx.Ok (X : Cx) : Prop where
  mod : Mod X.K X.mg X.base
  kind : X.env.scope.kind = .function
  glob : X.env.globals = mainGlobals
  blt : X.env.builtins = builtinsNs
  above : X.s₀.heap.objs.size ≤ X.env.locals
  inj : ∀ x y c, X.env.cells.lookup x = some c → X.env.cells.lookup y = some c → x = y
  has : ∀ x, (X.env.kindOf x = some .cell ∨ X.env.kindOf x = some .free) → ∃ c, X.env.cells.lookup x = some c
  cab : ∀ x c, X.fn x = true → X.env.cells.lookup x = some c → X.s₀.heap.objs.size ≤ c
  hd : X.calm = true → X.A.handled = none
  frames : X.A.frames = some X.stack
  stk : X.stack = X.outer ∨ (X.stack = X.env :: X.outer ∧ X.env.frame = some X.env.locals)
  exf : ∀ b ∈ X.ex, b ≠ X.env.locals ∧ ∀ x c, X.env.cells.lookup x = some c → c ≠ b
  bs : ∀ b o, X.base.get? b = some o → X.s₀.heap.get? b = some o ∧ X.H₀ b = none
  bsz : X.base.objs.size ≤ X.s₀.heap.objs.size
  noex : ∀ b o, X.base.get? b = some o → b ∉ X.ex
  exfs : ∀ b ∈ X.ex, b ∉ X.fs
  funs : X.s₀.heap.FunFrames X.base X.outer
  frf : ∀ b ∈ X.fs, X.H₀ b = none

structure Inv (X : Cx) (pins : List (Addr × Obj)) (σ : List (Option V)) (H : Hp) (s : Shared) : Prop where
  ok : X.Ok
  os : s.os = X.s₀.os
  bare : AllBare s.gens
  base : Un X.fs X.ex X.H₀ H X.s₀.heap s.heap
  loc : ∃ m, s.heap.Ns X.env.locals m ∧ ∀ (i : Nat) (x : Str) (v : V), X.N[i]? = some x → σ[i]? = some (some v) → Vis X.env.scope x → ∃ u, RelV v u ∧ Look X.env s.heap m x u
  cell : ∀ x c, X.env.cells.lookup x = some c → ∃ v, s.heap.IsCell c v
  free : H X.env.locals = none
  freeC : ∀ x c, X.env.cells.lookup x = some c → H c = none
  pin : ∀ p ∈ X.pn ++ pins, s.heap.get? p.1 = some p.2 ∧ H p.1 = none ∧ p.1 ≠ X.env.locals ∧ p.1 ∉ X.fs ∧ ∀ v, p.2.data ≠ .cell v
  hok : HOk X.prog X.w H s.heap
  len : σ.length = X.N.length

section
variable {X : Cx} {pins : List (Addr × Obj)} {σ : List (Option V)} {H H' : Hp} {s : Shared} {h' : Heap}

theorem Cx.Ok.nofr (ok : X.Ok) {b : Addr} {o : Obj} (e : X.base.get? b = some o) : b ∉ X.fs := fun hb => by
  have := (ok.funs.mem hb).1
  rw [e] at this; cases this
theorem Inv.bs (I : Inv X pins σ H s) : ∀ b o, X.base.get? b = some o → s.heap.get? b = some o ∧ H b = none := fun b o e =>
  ⟨I.base.keep b o (I.ok.bs b o e).1 (I.ok.bs b o e).2 (I.ok.nofr e) (I.ok.noex b o e), I.base.free b o (I.ok.bs b o e).1 (I.ok.bs b o e).2 (I.ok.noex b o e)⟩
theorem Inv.bk (I : Inv X pins σ H s) : ∀ b o, X.base.get? b = some o → s.heap.get? b = some o := fun b o e => (I.bs b o e).1
theorem Inv.mod (I : Inv X pins σ H s) : Mod X.K X.mg X.base := I.ok.mod
theorem Inv.kIn (I : Inv X pins σ H s) : X.K.In s.heap := I.ok.mod.kin.keeps I.bk
theorem Inv.nolimit (I : Inv X pins σ H s) : s.heap.NoLimit := I.ok.mod.nolimit.keeps I.bk
/-- the frame over the base: for OpenK's rules (K.In X.base is I.mod.kin) -/
theorem Inv.fr (I : Inv X pins σ H s) : ∃ m, Fr X.base X.env.locals s.heap m :=
  let ⟨m, hn, _⟩ := I.loc
  ⟨m, hn, I.bk, Nat.le_trans I.ok.bsz I.ok.above⟩
theorem Inv.lt (I : Inv X pins σ H s) : X.env.locals < s.heap.objs.size := let ⟨_, hn, _⟩ := I.loc; hn.lt
theorem Inv.sz (I : Inv X pins σ H s) : X.s₀.heap.objs.size ≤ s.heap.objs.size := Nat.le_trans I.ok.above (Nat.le_of_lt I.lt)
theorem Inv.nofs (I : Inv X pins σ H s) {a : Addr} (h : s.heap.objs.size ≤ a) : a ∉ X.fs := fun hb => by
  obtain ⟨_, o, ho, _⟩ := I.ok.funs.mem hb
  exact absurd (Nat.lt_of_lt_of_le (Heap.lt_size ho) (Nat.le_trans I.sz h)) (Nat.lt_irrefl _)
theorem Inv.cne (I : Inv X pins σ H s) : ∀ x c, X.env.cells.lookup x = some c → c ≠ X.env.locals := fun x c e z => by
  obtain ⟨v, o, ho, hd⟩ := I.cell x c e
  obtain ⟨m, ⟨o', es, ep, ho', hd', _⟩, _⟩ := I.loc
  rw [z, ho'] at ho; cases ho; rw [hd'] at hd; cases hd
theorem Inv.funs (I : Inv X pins σ H s) : s.heap.FunFrames X.base X.outer := by
  have all : ∀ (l : List Env), (∀ b ∈ frs l, b ∈ X.fs) → X.s₀.heap.FunFrames X.base l → s.heap.FunFrames X.base l := by
    intro l
    induction l with
    | nil => intro _ _; trivial
    | cons env r ih =>
      intro hs hl
      obtain ⟨hk, ⟨L, o, hf, hn, ho, hd⟩, hr⟩ := hl
      have hL : L ∈ X.fs := hs L (by unfold frs; rw [List.filterMap_cons, hf]; exact List.mem_cons_self)
      obtain ⟨sl, e⟩ := I.base.slot L o ho (I.ok.frf L hL) hL fun z => I.ok.exfs L z hL
      exact ⟨hk, ⟨L, _, hf, hn, e, hd⟩, ih (fun b hb => hs b (by unfold frs; rw [List.filterMap_cons, hf]; exact List.mem_cons_of_mem _ hb)) hr⟩
  exact all X.outer (fun _ hb => hb) I.ok.funs

/-- the frames that run, for a call -/
theorem Inv.stack (I : Inv X pins σ H s) : s.heap.FunFrames X.base X.stack := by
  rcases I.ok.stk with e | ⟨e, hf⟩
  · rw [e]; exact I.funs
  · rw [e]
    obtain ⟨m, hn, _⟩ := I.loc
    refine .cons (by rw [I.ok.kind]; decide) hf hn ?_ I.funs
    exact Heap.get?_none_of_le (Nat.le_trans I.ok.bsz I.ok.above)
theorem Inv.stkSub (I : Inv X pins σ H s) : ∀ b ∈ frs X.stack, b ∈ X.env.locals :: X.fs := fun b hb => by
  rcases I.ok.stk with e | ⟨e, hf⟩
  · rw [e] at hb; exact List.mem_cons_of_mem _ hb
  · rw [e] at hb
    unfold frs at hb
    rw [List.filterMap_cons, hf] at hb
    exact hb
theorem Inv.stkFree (I : Inv X pins σ H s) : ∀ b ∈ frs X.stack, H b = none := fun b hb => by
  rcases List.mem_cons.mp (I.stkSub b hb) with e | hb
  · rw [e]; exact I.free
  · obtain ⟨_, o, ho, _⟩ := I.ok.funs.mem hb
    exact I.base.free b o ho (I.ok.frf b hb) fun z => I.ok.exfs b z hb

/-- THE STEP: the untracked objects but the frame and the records at ch are kept (the callers' frames up to slots), the frame's map is kept, the new abstract heap is held -/
theorem Inv.step {g' : Array GenState} {t' : Nat} {d' : Drawn} {ch : List Addr} (I : Inv X pins σ H s)
    (hch : ∀ b ∈ ch, (b ∈ X.ex ∨ X.s₀.heap.objs.size ≤ b) ∧ b ≠ X.env.locals ∧ (∀ x c, X.env.cells.lookup x = some c → c ≠ b) ∧ ∀ p ∈ X.pn ++ pins, p.1 ≠ b)
    (keep : ∀ b o, b ≠ X.env.locals → b ∉ X.fs → b ∉ ch → s.heap.get? b = some o → H b = none → h'.get? b = some o)
    (slot : ∀ b o, b ≠ X.env.locals → b ∈ X.fs → b ∉ ch → s.heap.get? b = some o → H b = none → ∃ sl, h'.get? b = some { o with slots := sl }) (free : ∀ b o, b ∉ ch → s.heap.get? b = some o → H b = none → H' b = none)
    (there : ∀ b o, b ∉ ch → s.heap.get? b = some o → ∃ o', h'.get? b = some o')
    (tups : ∀ b xs, H b = some (.tup xs) → H' b = some (.tup xs)) (frzs : ∀ b o u, H b = some (.frz o u) → H' b = some (.frz o u)) (tbls : ∀ b ps, H b = some (.tbl ps) → ∃ more, H' b = some (.tbl (ps ++ more)))
    (ns : ∀ m, s.heap.Ns X.env.locals m → h'.Ns X.env.locals m) (hok : HOk X.prog X.w H' h') (hg : AllBare g') :
    Inv X pins σ H' { s with heap := h', gens := g', drawn := d', toks := t' } := by
  have neL : ∀ b o, X.s₀.heap.get? b = some o → b ≠ X.env.locals := fun b o e => Nat.ne_of_lt (Nat.lt_of_lt_of_le (Heap.lt_size e) I.ok.above)
  have neC : ∀ b o, X.s₀.heap.get? b = some o → b ∉ X.ex → b ∉ ch := fun b o e hx hb => by
    rcases (hch b hb).1 with z | z
    · exact hx z
    · exact absurd (Nat.lt_of_lt_of_le (Heap.lt_size e) z) (Nat.lt_irrefl _)
  have cellK : ∀ x c, X.env.cells.lookup x = some c → ∀ v, s.heap.IsCell c v → h'.IsCell c v := fun x c e v ⟨o, ho, hd⟩ => by
    have nch : c ∉ ch := fun z => (hch c z).2.2.1 x c e rfl
    by_cases hc : c ∈ X.fs
    · obtain ⟨sl, q⟩ := slot c o (I.cne x c e) hc nch ho (I.freeC x c e)
      exact ⟨_, q, hd⟩
    · exact ⟨o, keep c o (I.cne x c e) hc nch ho (I.freeC x c e), hd⟩
  refine ⟨I.ok, I.os, hg, ⟨fun b o e n hb hx => ?_, fun b o e n hb hx => ?_, fun b o e n hx => ?_, fun b o e hx => ?_, fun b xs e => tups b xs (I.base.tups b xs e), fun b o xs e => frzs b o xs (I.base.frzs b o xs e), fun b ps e => ?_⟩, ?_, fun x c e => ?_, ?_, fun x c e => ?_, fun p hp => ?_, hok, I.len⟩
  · exact keep b o (neL b o e) hb (neC b o e hx) (I.base.keep b o e n hb hx) (I.base.free b o e n hx)
  · obtain ⟨sl, e1⟩ := I.base.slot b o e n hb hx
    obtain ⟨sl', e2⟩ := slot b _ (neL b o e) hb (neC b o e hx) e1 (I.base.free b o e n hx)
    exact ⟨sl', e2⟩
  · obtain ⟨o', e1⟩ := I.base.there b o e hx
    exact free b o' (neC b o e hx) e1 (I.base.free b o e n hx)
  · obtain ⟨o', e1⟩ := I.base.there b o e hx
    exact there b o' (neC b o e hx) e1
  · obtain ⟨m1, e1⟩ := I.base.tbls b ps e
    obtain ⟨m2, e2⟩ := tbls b _ e1
    exact ⟨m1 ++ m2, by rw [e2, Array.append_assoc]⟩
  · obtain ⟨m, hn, hl⟩ := I.loc
    refine ⟨m, ns m hn, fun i x v e1 e2 e3 => ?_⟩
    obtain ⟨u, r, l⟩ := hl i x v e1 e2 e3
    refine ⟨u, r, ?_⟩
    rcases l with l | ⟨k, c, e, z⟩
    · exact .inl l
    · exact .inr ⟨k, c, e, cellK x c e _ z⟩
  · obtain ⟨v, z⟩ := I.cell x c e
    exact ⟨v, cellK x c e v z⟩
  · obtain ⟨m, ⟨o, _, _, ho, _⟩, _⟩ := I.loc
    exact free _ o (fun z => (hch _ z).2.1 rfl) ho I.free
  · obtain ⟨v, o, ho, hd⟩ := I.cell x c e
    exact free c o (fun z => (hch c z).2.2.1 x c e rfl) ho (I.freeC x c e)
  · obtain ⟨e, n, ne, nf, d⟩ := I.pin p hp
    have nch : p.1 ∉ ch := fun z => (hch p.1 z).2.2.2 p hp rfl
    exact ⟨keep p.1 p.2 ne nf nch e n, free p.1 p.2 nch e n, ne, nf, d⟩
/-- .. where the frame's own object is kept too -/
theorem Inv.un {t' : Nat} (I : Inv X pins σ H s) (u : Un X.fs [] H H' s.heap h') (hok : HOk X.prog X.w H' h') : Inv X pins σ H' { s with heap := h', toks := t' } := by
  obtain ⟨m, ⟨o, es, ep, ho, r⟩, _⟩ := id I.loc
  obtain ⟨sl, hL⟩ := u.any ho I.free (by simp)
  exact I.step (g' := s.gens) (d' := s.drawn) (ch := []) (fun _ z => nomatch z) (fun b o _ hb _ e n => u.keep b o e n hb (by simp)) (fun b o _ hb _ e n => u.slot b o e n hb (by simp)) (fun b o _ e n => u.free b o e n (by simp)) (fun b o _ e => u.there b o e (by simp)) u.tups u.frzs u.tbls (fun m' hm => by
    obtain ⟨o', es', ep', ho', r'⟩ := hm
    rw [ho] at ho'; cases ho'
    exact ⟨_, es', ep', hL, r'⟩) hok I.bare
/-- behind a call (or a comprehension's block): the slots of this frame may have changed too, the records at ch may have turned -/
theorem Inv.call {g' : Array GenState} {t' : Nat} {d' : Drawn} {ch : List Addr} (I : Inv X pins σ H s) (u : Un (frs X.stack) ch H H' s.heap h') (hok : HOk X.prog X.w H' h') (hg : AllBare g')
    (hch : ∀ b ∈ ch, (b ∈ X.ex ∨ X.s₀.heap.objs.size ≤ b) ∧ b ≠ X.env.locals ∧ (∀ x c, X.env.cells.lookup x = some c → c ≠ b) ∧ ∀ p ∈ X.pn ++ pins, p.1 ≠ b) :
    Inv X pins σ H' { s with heap := h', gens := g', drawn := d', toks := t' } := by
  obtain ⟨m, ⟨o, es, ep, ho, r⟩, _⟩ := id I.loc
  obtain ⟨sl, hL⟩ := u.any ho I.free fun z => (hch _ z).2.1 rfl
  exact I.step (ch := ch) hch (fun b o hL hb hc e n => u.keep b o e n (fun z => (List.mem_cons.mp (I.stkSub b z)).elim hL hb) hc) (fun b o _ _ hc e n => u.any e n hc) (fun b o hc e n => u.free b o e n hc) (fun b o hc e => u.there b o e hc) u.tups u.frzs u.tbls (fun m' hm => by
    obtain ⟨o', es', ep', ho', r'⟩ := hm
    rw [ho] at ho'; cases ho'
    exact ⟨_, es', ep', hL, r'⟩) hok hg
/-- an untracked record of ours (an iterator) has turned -/
theorem Inv.turned {t' : Nat} {it : Addr} (I : Inv X pins σ H s) (k : ∀ b o, b ≠ it → s.heap.get? b = some o → h'.get? b = some o) (hn : H it = none) (hL : it ≠ X.env.locals)
    (h1 : it ∈ X.ex ∨ X.s₀.heap.objs.size ≤ it) (h2 : ∀ x c, X.env.cells.lookup x = some c → c ≠ it) (h3 : ∀ p ∈ X.pn ++ pins, p.1 ≠ it) : Inv X pins σ H { s with heap := h', toks := t' } := by
  have nit : ∀ b u, H b = some u → b ≠ it := fun b u e z => by rw [z, hn] at e; cases e
  refine I.step (g' := s.gens) (d' := s.drawn) (ch := [it]) (fun b hb => ?_) (fun b o _ _ hc e _ => k b o (fun z => hc (by simp [z])) e) (fun b o _ _ hc e _ => ⟨o.slots, k b o (fun z => hc (by simp [z])) e⟩) (fun _ _ _ _ n => n)
    (fun b o hc e => ⟨o, k b o (fun z => hc (by simp [z])) e⟩) (fun _ _ e => e) (fun _ _ _ e => e) (fun b ps e => ⟨#[], by rw [e]; simp⟩) (fun m hm => ?_) (fun b u e => ?_) I.bare
  · have e : b = it := by simpa using hb
    subst e
    exact ⟨h1, hL, h2, h3⟩
  · obtain ⟨o, es, ep, ho, r⟩ := hm
    exact ⟨o, es, ep, k _ o (Ne.symm hL) ho, r⟩
  · refine (I.hok b u e).stay (fun c v hc q => k c v ?_ q) (fun _ q => q) fun _ _ q => q
    rcases hc with z | z
    · rw [z]; exact nit b u e
    · exact nit c _ z
theorem Inv.tok (I : Inv X pins σ H s) (t : Nat) : Inv X pins σ H { s with toks := t } := I.un (h' := s.heap) (t' := t) Un.refl I.hok
/-- all objects kept -/
theorem Inv.kept {t' : Nat} (I : Inv X pins σ H s) (k : ∀ b u, s.heap.get? b = some u → h'.get? b = some u) : Inv X pins σ H { s with heap := h', toks := t' } := I.un (Un.kept k) (I.hok.kept k)
/-- a new object laid and tracked -/
theorem Inv.laid {a : Addr} {o : HO} {t' : Nat} (I : Inv X pins σ H s) (k : ∀ b u, s.heap.get? b = some u → h'.get? b = some u) (hp : s.heap.objs.size ≤ a) (new : ObjOk X.prog X.w (upd H a o) h' a o) :
    Inv X pins σ (upd H a o) { s with heap := h', toks := t' } := I.un (Un.laid k hp (I.hok.fresh hp)) (I.hok.laid k hp new)
/-- an object written -/
theorem Inv.write {x e : Addr} {o : HO} {t' : Nat} (I : Inv X pins σ H s) (mu : Mut (H x)) (he : e = x ∨ H e = some (.own x)) (k : ∀ b u, b ≠ e → s.heap.get? b = some u → h'.get? b = some u) (heo : ∃ u, h'.get? e = some u)
    (new : ObjOk X.prog X.w (upd H x o) h' x o) : Inv X pins σ (upd H x o) { s with heap := h', toks := t' } := I.un (Un.write mu he k heo) (I.hok.write mu he k heo new)
/-- forgetting slots, pins -/
theorem Inv.weak {σ' : List (Option V)} (I : Inv X pins σ H s) (hl : σ'.length = σ.length) (w : ∀ (i : Nat) v, σ'[i]? = some (some v) → σ[i]? = some (some v)) : Inv X pins σ' H s :=
  ⟨I.ok, I.os, I.bare, I.base, let ⟨m, hn, hl'⟩ := I.loc; ⟨m, hn, fun i x v e1 e2 e3 => hl' i x v e1 (w i v e2) e3⟩, I.cell, I.free, I.freeC, I.pin, I.hok, hl.trans I.len⟩
theorem Inv.pins_of {pins' : List (Addr × Obj)} (I : Inv X pins σ H s) (h : ∀ p ∈ pins', s.heap.get? p.1 = some p.2 ∧ H p.1 = none ∧ p.1 ≠ X.env.locals ∧ p.1 ∉ X.fs ∧ ∀ v, p.2.data ≠ .cell v) : Inv X pins' σ H s :=
  ⟨I.ok, I.os, I.bare, I.base, I.loc, I.cell, I.free, I.freeC, fun p hp => (List.mem_append.mp hp).elim (fun z => I.pin p (List.mem_append_left _ z)) (h p), I.hok, I.len⟩

theorem nodup_ix {N : List Str} (hN : N.Nodup) {i j : Nat} {x : Str} (a : N[i]? = some x) (b : N[j]? = some x) : i = j := by
  obtain ⟨h1, e1⟩ := List.getElem?_eq_some_iff.mp a
  obtain ⟨h2, e2⟩ := List.getElem?_eq_some_iff.mp b
  exact (List.getElem_inj hN).mp (e1.trans e2.symm)

/-- a name is stored; what changed -/
theorem store_ok2 {M : Model} {A : Around} {E : Value → Shared → Prop} {i : Nat} {x : Str} {v : V} {u : Value} {Q : Unit → Shared → Prop} (I : Inv X pins σ H s) (hN : X.N.Nodup) (hi : X.N[i]? = some x) (hx : Loc X.env.scope x) (r : RelV v u)
    (h : ∀ s', Inv X pins (σ.set i (some v)) H s' → (∃ a, Heap.SameBut a s.heap s'.heap ∧ (a = X.env.locals ∨ X.env.cells.lookup x = some a)) → Q () s') (hf : X.fn x = true ∨ X.env.scope.names.lookup x = some .local := by first | exact .inl rfl | exact .inr rfl | assumption) : wpAny M A (storeName X.env x u) Q E s := by
  obtain ⟨m, hn, hl⟩ := id I.loc
  have hcls : (X.env.scope.kind == .class || (X.env.scope.kind == .module && X.env.locals != X.env.globals)) = false := by rw [I.ok.kind]; rfl
  have hiσ : i < σ.length := by rw [I.len]; exact (List.getElem?_eq_some_iff.mp hi).1
  have cne := I.cne
  have tracked : ∀ {a : Addr} {h' : Heap}, (∃ o, s.heap.get? a = some o ∧ H a = none) → Heap.SameBut a s.heap h' → HOk X.prog X.w H h' := fun {a h'} ha hs b ob e => by
    obtain ⟨_, _, hfree⟩ := ha
    refine (I.hok b ob e).stay (fun c w' hc q => (hs.2 c ?_).trans q) (fun _ q => q) fun _ _ q => q
    rintro rfl
    rcases hc with rfl | hc
    · rw [hfree] at e; cases e
    · rw [hfree] at hc; cases hc
  rcases hx with hk | hk
  · refine wpAny_storeName_local hk hn (fun h' hn' hs => ?_) hcls
    obtain ⟨oL, _, _, hoL, _⟩ := id hn
    refine h _ ⟨I.ok, I.os, I.bare, ⟨fun b o e n hb hx => ?_, fun b o e n hb hx => ?_, I.base.free, fun b o e hx => ?_, I.base.tups, I.base.frzs, I.base.tbls⟩, ⟨_, hn', fun j y v' e1 e2 e3 => ?_⟩, fun y c e => ?_, I.free, I.freeC, fun p hp => ?_, tracked ⟨oL, hoL, I.free⟩ hs, by simpa using I.len⟩ ⟨_, hs, .inl rfl⟩
    · exact (hs.2 b (Nat.ne_of_lt (Nat.lt_of_lt_of_le (Heap.lt_size e) I.ok.above))).trans (I.base.keep b o e n hb hx)
    · obtain ⟨sl, e1⟩ := I.base.slot b o e n hb hx
      exact ⟨sl, (hs.2 b (Nat.ne_of_lt (Nat.lt_of_lt_of_le (Heap.lt_size e) I.ok.above))).trans e1⟩
    · obtain ⟨o', e1⟩ := I.base.there b o e hx
      exact ⟨o', (hs.2 b (Nat.ne_of_lt (Nat.lt_of_lt_of_le (Heap.lt_size e) I.ok.above))).trans e1⟩
    · by_cases hj : j = i
      · subst hj
        rw [hi] at e1; cases e1
        rw [List.getElem?_set_self hiσ] at e2
        cases e2
        exact ⟨u, r, .inl ⟨hk, by simp⟩⟩
      · rw [List.getElem?_set_ne (Ne.symm hj)] at e2
        obtain ⟨u', r', q⟩ := hl j y v' e1 e2 e3
        refine ⟨u', r', ?_⟩
        rcases q with ⟨k, e⟩ | ⟨k, c, e, z⟩
        · refine .inl ⟨k, ?_⟩
          have : y ≠ x := fun e => hj (nodup_ix hN e1 (e ▸ hi))
          simp [this, e]
        · exact .inr ⟨k, c, e, z.sameBut hs (cne y c e)⟩
    · obtain ⟨w', z⟩ := I.cell y c e
      exact ⟨w', z.sameBut hs (cne y c e)⟩
    · obtain ⟨e, n, ne, nf, d⟩ := I.pin p hp
      exact ⟨(hs.2 p.1 ne).trans e, n, ne, nf, d⟩
  · have hfn : X.fn x = true := by
      rcases hf with z | z
      · exact z
      · rw [z] at hk; cases hk
    obtain ⟨c, hc⟩ := I.ok.has x (.inl hk)
    obtain ⟨w', z⟩ := I.cell x c hc
    refine wpAny_storeName_cell I.ok.kind hk hc z (fun h' hc' hs => ?_)
    obtain ⟨oc, hoc, hocd⟩ := id z
    refine h { s with heap := h' } ⟨I.ok, I.os, I.bare, ⟨fun b o e n hb hx => ?_, fun b o e n hb hx => ?_, I.base.free, fun b o e hx => ?_, I.base.tups, I.base.frzs, I.base.tbls⟩, ⟨m, hn.sameBut hs (Ne.symm (cne x c hc)), fun j y v' e1 e2 e3 => ?_⟩, fun y c' e => ?_, I.free, I.freeC, fun p hp => ?_, tracked ⟨oc, hoc, I.freeC x c hc⟩ hs, by simpa using I.len⟩ ⟨c, hs, .inr hc⟩
    · exact (hs.2 b (Nat.ne_of_lt (Nat.lt_of_lt_of_le (Heap.lt_size e) (I.ok.cab x c hfn hc)))).trans (I.base.keep b o e n hb hx)
    · obtain ⟨sl, e1⟩ := I.base.slot b o e n hb hx
      exact ⟨sl, (hs.2 b (Nat.ne_of_lt (Nat.lt_of_lt_of_le (Heap.lt_size e) (I.ok.cab x c hfn hc)))).trans e1⟩
    · obtain ⟨o', e1⟩ := I.base.there b o e hx
      exact ⟨o', (hs.2 b (Nat.ne_of_lt (Nat.lt_of_lt_of_le (Heap.lt_size e) (I.ok.cab x c hfn hc)))).trans e1⟩
    · by_cases hj : j = i
      · subst hj
        rw [hi] at e1; cases e1
        rw [List.getElem?_set_self hiσ] at e2
        cases e2
        exact ⟨u, r, .inr ⟨.inl hk, c, hc, hc'⟩⟩
      · rw [List.getElem?_set_ne (Ne.symm hj)] at e2
        obtain ⟨u', r', q⟩ := hl j y v' e1 e2 e3
        refine ⟨u', r', ?_⟩
        rcases q with q | ⟨k, c', e, z'⟩
        · exact .inl q
        · refine .inr ⟨k, c', e, z'.sameBut hs ?_⟩
          rintro rfl
          exact hj (nodup_ix hN e1 (I.ok.inj _ _ _ e hc ▸ hi))
    · by_cases hcc : c' = c
      · subst hcc; exact ⟨_, hc'⟩
      · obtain ⟨w2, z2⟩ := I.cell y c' e
        exact ⟨w2, z2.sameBut hs hcc⟩
    · obtain ⟨e, n, ne, nf, d⟩ := I.pin p hp
      refine ⟨(hs.2 p.1 ?_).trans e, n, ne, nf, d⟩
      intro q
      rw [q, hoc] at e
      have q' : oc = p.2 := Option.some.inj e
      exact d w' (by rw [← q']; exact hocd)
theorem store_ok {M : Model} {A : Around} {E : Value → Shared → Prop} {i : Nat} {x : Str} {v : V} {u : Value} {Q : Unit → Shared → Prop} (I : Inv X pins σ H s) (hN : X.N.Nodup) (hi : X.N[i]? = some x) (hx : Loc X.env.scope x) (r : RelV v u)
    (h : ∀ s', Inv X pins (σ.set i (some v)) H s' → Q () s') (hf : X.fn x = true ∨ X.env.scope.names.lookup x = some .local := by first | exact .inl rfl | exact .inr rfl | assumption) : wpAny M A (storeName X.env x u) Q E s :=
  store_ok2 I hN hi hx r (fun s' I' _ => h s' I') hf
/-- behind a call or a block, the state as it is -/
theorem Inv.call' {s' : Shared} {ch : List Addr} (I : Inv X pins σ H s) (ho : s'.os = s.os) (u : Un (frs X.stack) ch H H' s.heap s'.heap) (hok : HOk X.prog X.w H' s'.heap) (hg : AllBare s'.gens)
    (hch : ∀ b ∈ ch, (b ∈ X.ex ∨ X.s₀.heap.objs.size ≤ b) ∧ b ≠ X.env.locals ∧ (∀ x c, X.env.cells.lookup x = some c → c ≠ b) ∧ ∀ p ∈ X.pn ++ pins, p.1 ≠ b) : Inv X pins σ H' s' := by
  obtain ⟨h', g', d', t', o'⟩ := s'
  have e : o' = s.os := ho
  subst e
  exact I.call (g' := g') (t' := t') (d' := d') u hok hg hch
end

/-! ### the judgements -/
/-- an exception: its class, its own dict's address (where it has one), the abstract heap behind it -/
abbrev XK := Value → Option Addr → Hp → Prop
abbrev St := List (Option V)
abbrev VK := V → Hp → Prop
/-- an expression's reading; a test's; an argument list's -/
abbrev TE := St → Hp → VK → Prop
abbrev TT := St → Hp → (Bool → Hp → Prop) → Prop
abbrev TA := St → Hp → (List V → Hp → Prop) → Prop
/-- what is wanted behind a statement -/
structure Ends where
  nx : St → Hp → Prop
  rt : VK
  bk : St → Hp → Prop := fun _ _ => False
  ct : St → Hp → Prop := fun _ _ => False
abbrev TS := Ends → St → Hp → Prop

def EP (X : Cx) (pins : List (Addr × Obj)) (σ : St) (Q : VK) (u : Value) (s' : Shared) : Prop := ∃ v H', Inv X pins σ H' s' ∧ RelV v u ∧ Q v H'
def TP (X : Cx) (pins : List (Addr × Obj)) (σ : St) (Q : Bool → Hp → Prop) (b : Bool) (s' : Shared) : Prop := ∃ H', Inv X pins σ H' s' ∧ Q b H'
def AP (X : Cx) (pins : List (Addr × Obj)) (σ : St) (Q : List V → Hp → Prop) (us : List Value) (s' : Shared) : Prop := ∃ vs H', Inv X pins σ H' s' ∧ Vals vs us ∧ Q vs H'
def SP (X : Cx) (pins : List (Addr × Obj)) (D : Ends) (f : Flow) (s' : Shared) : Prop :=
  match f with
  | .next => ∃ σ' H', Inv X pins σ' H' s' ∧ D.nx σ' H'
  | .brk => ∃ σ' H', Inv X pins σ' H' s' ∧ D.bk σ' H'
  | .cont => ∃ σ' H', Inv X pins σ' H' s' ∧ D.ct σ' H'
  | .ret u => ∃ v σ' H', Inv X pins σ' H' s' ∧ RelV v u ∧ D.rt v H'

def PE (X : Cx) (e : Expr) (t : TE) : Prop :=
  ∀ (pins : List (Addr × Obj)) (s : Shared) (σ : St) (H : Hp) (Q : VK), Inv X pins σ H s → t σ H Q → wpAny (model X.prog X.w) X.A (eval e X.env) (EP X pins σ Q) X.xe s
def PT (X : Cx) (e : Expr) (t : TT) : Prop :=
  ∀ (pins : List (Addr × Obj)) (s : Shared) (σ : St) (H : Hp) (Q : Bool → Hp → Prop), Inv X pins σ H s → t σ H Q → wpAny (model X.prog X.w) X.A (isTrue e X.env (eval e X.env)) (TP X pins σ Q) X.xe s
/-- a test whatever its 'whole' is (and, or) -/
def PW (X : Cx) (e : Expr) (t : TT) : Prop :=
  ∀ (whole : Sem Value) (pins : List (Addr × Obj)) (s : Shared) (σ : St) (H : Hp) (Q : Bool → Hp → Prop), Inv X pins σ H s → t σ H Q → wpAny (model X.prog X.w) X.A (isTrue e X.env whole) (TP X pins σ Q) X.xe s
theorem PW.pt {X : Cx} {e : Expr} {t : TT} (h : PW X e t) : PT X e t := h _
/-- an argument list (no star), from the left -/
def PA (X : Cx) (es : List Expr) (t : TA) : Prop :=
  ∀ (pos : Pos) (pins : List (Addr × Obj)) (s : Shared) (σ : St) (H : Hp) (Q : List V → Hp → Prop), Inv X pins σ H s → t σ H Q → wpAny (model X.prog X.w) X.A (spliced (backTo pos (starEach es X.env))) (AP X pins σ Q) X.xe s
def PS (X : Cx) (st : Stmt) (t : TS) : Prop :=
  ∀ (pins : List (Addr × Obj)) (s : Shared) (σ : St) (H : Hp) (D : Ends), Inv X pins σ H s → t D σ H → wpAny (model X.prog X.w) X.A (exec st X.env) (SP X pins D) X.xe s
def PSs (X : Cx) (st : List Stmt) (t : TS) : Prop :=
  ∀ (pins : List (Addr × Obj)) (s : Shared) (σ : St) (H : Hp) (D : Ends), Inv X pins σ H s → t D σ H → wpAny (model X.prog X.w) X.A (execs st X.env) (SP X pins D) X.xe s
/-- weaken the end -/
theorem thn {α : Type} {t : Sem α} {Q Q' : α → Shared → Prop} {M : Model} {A : Around} {E : Value → Shared → Prop} {s : Shared} (h : wpAny M A t Q E s) (hQ : ∀ a s, Q a s → Q' a s) : wpAny M A t Q' E s := wpAny_mono h hQ fun _ _ x => x
end L2

namespace L2
open PySem PySem.Spec PyProof.Rows
section
variable {X : Cx}

/-- two expressions in a row -/
theorem bin {a b : Expr} {ta tb : TE} (ha : PE X a ta) (hb : PE X b tb) {pins : List (Addr × Obj)} {s : Shared} {σ : St} {H : Hp} {R : V → V → Hp → Prop} (I : Inv X pins σ H s) (h : ta σ H fun x H1 => tb σ H1 fun y H2 => R x y H2)
    {α : Type} {Q : α → Shared → Prop} {f : Value → Value → Sem α}
    (hf : ∀ v u s2 x y H2, Inv X pins σ H2 s2 → RelV x v → RelV y u → R x y H2 → wpAny (model X.prog X.w) X.A (f v u) Q X.xe s2) :
    wpAny (model X.prog X.w) X.A (eval a X.env) (fun v s₁ => wpAny (model X.prog X.w) X.A (eval b X.env) (fun u s₂ => wpAny (model X.prog X.w) X.A (f v u) Q X.xe s₂) X.xe s₁) X.xe s := by
  refine thn (ha pins s σ H _ I h) fun v s1 ⟨x, H1, I1, r1, q1⟩ => ?_
  refine thn (hb pins s1 σ H1 _ I1 q1) fun u s2 ⟨y, H2, I2, r2, q2⟩ => ?_
  exact hf v u s2 x y H2 I2 r1 r2 q2

/-! ### names and constants -/
def tVar (i : Nat) : TE := fun σ H Q => ∃ v, σ[i]? = some (some v) ∧ Q v H
def tC (v : V) : TE := fun _ H Q => Q v H
theorem pe_var {i : Nat} {x : Str} {pos : Pos} (hN : X.N[i]? = some x) (hv : Vis X.env.scope x) (hd : (x == ("__debug__" : Str)) = false := by decide) (hcd : (x == ("__classdict__" : Str)) = false := by decide) : PE X (.Name x pos) (tVar i) := by
  intro pins s σ H Q I h
  obtain ⟨v, e, h⟩ := h
  obtain ⟨m, hn, hl⟩ := I.loc
  obtain ⟨u, r, l⟩ := hl i x v hN e hv
  have fin : EP X pins σ Q u s := ⟨v, H, I, r, h⟩
  rcases l with ⟨hk, hm⟩ | ⟨hk, c, hc, hcell⟩
  · exact wpAny_Name (wpAny_loadName_local I.ok.kind hk hn hm fin) hd
  · rcases hk with hk | hk
    · exact wpAny_Name (wpAny_loadName_cell I.ok.kind hk hc hcell fin) hd
    · exact wpAny_Name (wpAny_loadName_free I.ok.kind hk hc hcell fin hcd) hd
theorem pe_int {i j pos} : PE X (.Constant (.int i) j pos) (tC (.int i)) := fun _ _ _ H _ I h => wpAny_Constant_int ⟨.int i, H, I.tok _, ⟨_, rfl⟩, h⟩
theorem pe_bl {b j pos} : PE X (.Constant (.bool b) j pos) (tC (.bl b)) := fun _ _ _ H _ I h => Constant_bool ⟨.bl b, H, I, rfl, h⟩
theorem pe_non {j pos} : PE X (.Constant .none j pos) (tC .non) := fun _ _ _ H _ I h => Constant_none ⟨.non, H, I, rfl, h⟩
theorem pe_str {x j pos} : PE X (.Constant (.str x) j pos) (tC (.str x)) := fun _ _ _ H _ I h => Calls.Constant_str ⟨.str x, H, I.tok _, ⟨_, rfl⟩, h⟩

/-- a global name of the def -/
def Gl (X : Cx) (x : Str) : Prop := X.env.kindOf x = some .globalImplicit
theorem ld_glob {E : Value → Shared → Prop} {pins : List (Addr × Obj)} {s : Shared} {σ : St} {H : Hp} {x : Str} {u : Value} {pos : Pos} {Q : Value → Shared → Prop} (I : Inv X pins σ H s) (hg : Gl X x) (hm : X.mg x = some u) (h : Q u s)
    (hd : (x == ("__debug__" : Str)) = false := by decide) : wpAny (model X.prog X.w) X.A (eval (.Name x pos) X.env) Q E s :=
  Calls.Name_function_global I.ok.kind hg (Calls.loadGlobal_global (by rw [I.ok.glob]; exact I.mod.glob.keeps I.bk) hm h) hd
theorem ld_blt {E : Value → Shared → Prop} {pins : List (Addr × Obj)} {s : Shared} {σ : St} {H : Hp} {x : Str} {u : Value} {pos : Pos} {Q : Value → Shared → Prop} (I : Inv X pins σ H s) (hg : Gl X x) (hm : X.mg x = none) (hv : bootBuiltins x = some u) (h : Q u s)
    (hn : x ≠ "__name__" := by decide) (hd : (x == ("__debug__" : Str)) = false := by decide) : wpAny (model X.prog X.w) X.A (eval (.Name x pos) X.env) Q E s := by
  obtain ⟨mb, h1, h2⟩ := I.mod.blt
  exact Calls.Name_function_global I.ok.kind hg (Calls.loadGlobal_builtin (by rw [I.ok.glob]; exact I.mod.glob.keeps I.bk) hm (by rw [I.ok.blt]; exact h1.keeps I.bk) ((h2 x hn).trans hv) h) hd
/-- a module's constant, a class, a function, as a value -/
theorem pe_glob {x : Str} {v : V} {u : Value} {pos : Pos} (hg : Gl X x) (hm : X.mg x = some u) (r : RelV v u) (hd : (x == ("__debug__" : Str)) = false := by decide) : PE X (.Name x pos) (tC v) :=
  fun _ _ _ H _ I h => ld_glob I hg hm ⟨v, H, I, r, h⟩ hd
theorem pe_bltn {x : Str} {v : V} {u : Value} {pos : Pos} (hg : Gl X x) (hm : X.mg x = none) (hv : bootBuiltins x = some u) (r : RelV v u) (hn : x ≠ "__name__" := by decide) (hd : (x == ("__debug__" : Str)) = false := by decide) : PE X (.Name x pos) (tC v) :=
  fun _ _ _ H _ I h => ld_blt I hg hm hv ⟨v, H, I, r, h⟩ hn hd

/-! ### arithmetic -/
/-- two ints -/
def t2I (ta tb : TE) (k : Int → Int → Hp → Prop) : St → Hp → Prop := fun σ H => ta σ H fun x H1 => tb σ H1 fun y H2 => ∃ i j, x = .int i ∧ y = .int j ∧ k i j H2
variable {a b : Expr} {ta tb : TE} {pos : Pos}
/-! ### comparisons -/
def PC (X : Cx) (op : CmpOp) (a b : Expr) (t : TE) : Prop :=
  ∀ (pins : List (Addr × Obj)) (s : Shared) (σ : St) (H : Hp) (Q : VK), Inv X pins σ H s → t σ H Q →
    wpAny (model X.prog X.w) X.A (eval a X.env) (fun v s₁ => wpAny (model X.prog X.w) X.A (eval b X.env) (fun u s₂ => wpAny (model X.prog X.w) X.A (compareOp op v u) (EP X pins σ Q) X.xe s₂) X.xe s₁) X.xe s
theorem nobehind (b : Expr) {op : CmpOp} (h : op ≠ .In) (h2 : op ≠ .NotIn) : behindInMarks op b = false := by
  have e1 : (op == CmpOp.In) = false := by cases op <;> first | rfl | exact absurd rfl h
  have e2 : (op == CmpOp.NotIn) = false := by cases op <;> first | rfl | exact absurd rfl h2
  cases b <;> simp [behindInMarks, e1, e2]
def tCmp (p : Int → Int → Bool) (ta tb : TE) : TE := fun σ H Q => t2I ta tb (fun i j H2 => Q (.bl (p i j)) H2) σ H
abbrev tLt : TE → TE → TE := tCmp fun i j => decide (i < j)
abbrev tGt : TE → TE → TE := tCmp fun i j => decide (j < i)
abbrev tGe : TE → TE → TE := tCmp fun i j => decide (j ≤ i)
/-- a comparison of two ints, by its rule -/
theorem pc_int {op : CmpOp} {p : Int → Int → Bool} (ha : PE X a ta) (hb : PE X b tb)
    (rule : ∀ (i j : Int) (t u : Tok) (Q : Value → Shared → Prop) (s : Shared), Q (.bool (p i j)) s → wpAny (model X.prog X.w) X.A (compareOp op (.int i t) (.int j u)) Q X.xe s) : PC X op a b (tCmp p ta tb) := by
  intro pins s σ H Q I h
  refine bin ha hb I h fun v u s2 x y H2 I2 rx ry q => ?_
  obtain ⟨i, j, rfl, rfl, q⟩ := q
  obtain ⟨t, rfl⟩ := rx
  obtain ⟨t', rfl⟩ := ry
  exact rule i j t t' _ s2 ⟨.bl _, H2, I2, rfl, q⟩
theorem pc_lt (ha : PE X a ta) (hb : PE X b tb) : PC X .Lt a b (tLt ta tb) := pc_int ha hb fun _ _ _ _ _ _ h => lt_int h
theorem pc_gt (ha : PE X a ta) (hb : PE X b tb) : PC X .Gt a b (tGt ta tb) := pc_int ha hb fun _ _ _ _ _ _ h => gt_int h
theorem pc_ge (ha : PE X a ta) (hb : PE X b tb) : PC X .GtE a b (tGe ta tb) := pc_int ha hb fun _ _ _ _ _ _ h => ge_int h
/-- is None -/
def tIsN (ta : TE) : TE := fun σ H Q => ta σ H fun x H1 => Q (.bl (decide (x = .non))) H1
theorem RelV.none_iff {x : V} {v : Value} (r : RelV x v) : (v == Value.none) = decide (x = .non) := by
  cases x with
  | non => cases r; rfl
  | bl _ => cases r; rfl
  | int _ => obtain ⟨t, rfl⟩ := r; rfl
  | str _ => obtain ⟨t, rfl⟩ := r; rfl
  | byt _ => obtain ⟨t, rfl⟩ := r; rfl
  | flt _ => obtain ⟨t, rfl⟩ := r; rfl
  | ref _ => cases r; rfl
  | ty _ => cases r; rfl
theorem pc_isN {j pos'} (ha : PE X a ta) : PC X .Is a (.Constant .none j pos') (tIsN ta) := by
  intro pins s σ H Q I h
  refine thn (ha pins s σ H _ I h) fun v s1 ⟨x, H1, I1, r1, q1⟩ => ?_
  exact Constant_none (is_none_gen ⟨.bl _, H1, I1, by rw [r1.none_iff]; rfl, q1⟩)
/-- a comparison as a value, as a test -/
def tB (t : TE) : TT := fun σ H Q => t σ H fun x H1 => ∃ c, x = .bl c ∧ Q c H1
theorem pe_cmp {op : CmpOp} {t : TE} (h : PC X op a b t) (h1 : behindInMarks op b = false := by first | exact nobehind _ (by decide) (by decide) | rfl) : PE X (.Compare a [op] [b] pos) t := fun pins s σ H Q I hw => wpAny_Compare1 (h pins s σ H Q I hw) h1
theorem pt_cmp {op : CmpOp} {t : TE} (h : PC X op a b t) (h1 : behindInMarks op b = false := by first | exact nobehind _ (by decide) (by decide) | rfl) : PT X (.Compare a [op] [b] pos) (tB t) := by
  intro pins s σ H Q I hw
  refine wpAny_isTrue_Compare1 (thn (h pins s σ H _ I hw) fun v s1 h1 => thn h1 fun u s2 h2 => thn h2 fun c s3 ⟨x, H1, I1, r1, q1⟩ => ?_) h1
  obtain ⟨d, rfl, q⟩ := q1
  cases r1
  exact wpAny_truthy_bool ⟨H1, I1, q⟩
/-- an expression whose value is a bool, as a test -/
theorem pt_val {e : Expr} {t : TE} (h : PE X e t) (he : ∀ whole, isTrue e X.env whole = (do let v ← whole; standAt e.pos; holding [v] (truthy v)) := by intro _; rfl) : PT X e (tB t) := by
  intro pins s σ H Q I hw
  refine isTrue_plain (thn (h pins s σ H _ I hw) fun v s1 ⟨x, H1, I1, r1, q1⟩ => ?_) (he _)
  obtain ⟨d, rfl, q⟩ := q1
  cases r1
  exact wpAny_truthy_bool ⟨H1, I1, q⟩

/-! ### and, or, not -/
variable {tA tB' : TT} {rest : List Expr}
def tAnd (t u : TT) : TT := fun σ H Q => t σ H fun c H1 => if c = true then u σ H1 Q else Q false H1
def tOr (t u : TT) : TT := fun σ H Q => t σ H fun c H1 => if c = true then Q true H1 else u σ H1 Q
def tNot (t : TT) : TT := fun σ H Q => t σ H fun c H1 => Q (!c) H1
theorem pw_and1 (ha : PT X a tA) : PW X (.BoolOp .And [a] pos) tA := by
  intro wh pins s σ H Q I h
  refine isTrue_and (thn (ha pins s σ H Q I h) fun c s1 e => ?_)
  cases c with
  | true => exact isTrue_and_nil e
  | false => exact e
theorem pw_or1 (ha : PT X a tA) : PW X (.BoolOp .Or [a] pos) tA := by
  intro wh pins s σ H Q I h
  refine isTrue_or (thn (ha pins s σ H Q I h) fun c s1 e => ?_)
  cases c with
  | false => exact isTrue_or_nil e
  | true => exact e
theorem pw_and (ha : PT X a tA) (hb : PW X (.BoolOp .And (b :: rest) pos) tB') : PW X (.BoolOp .And (a :: b :: rest) pos) (tAnd tA tB') := by
  intro wh pins s σ H Q I h
  refine isTrue_and (thn (ha pins s σ H _ I h) fun c s1 ⟨H1, I1, q1⟩ => ?_)
  cases c with
  | true => exact hb wh pins s1 σ H1 Q I1 q1
  | false => exact ⟨H1, I1, q1⟩
theorem pw_or (ha : PT X a tA) (hb : PW X (.BoolOp .Or (b :: rest) pos) tB') : PW X (.BoolOp .Or (a :: b :: rest) pos) (tOr tA tB') := by
  intro wh pins s σ H Q I h
  refine isTrue_or (thn (ha pins s σ H _ I h) fun c s1 ⟨H1, I1, q1⟩ => ?_)
  cases c with
  | true => exact ⟨H1, I1, q1⟩
  | false => exact hb wh pins s1 σ H1 Q I1 q1
theorem pt_not (ha : PT X a tA) : PT X (.UnaryOp .Not a pos) (tNot tA) := by
  intro pins s σ H Q I h
  exact isTrue_not (ha pins s σ H (fun c H1 => Q (!c) H1) I h)
/-- .. as values (bools) -/
def tAndV (ta tb : TE) : TE := fun σ H Q => ta σ H fun x H1 => ∃ c, x = .bl c ∧ if c = true then tb σ H1 Q else Q (.bl false) H1
def tOrV (ta tb : TE) : TE := fun σ H Q => ta σ H fun x H1 => ∃ c, x = .bl c ∧ if c = true then Q (.bl true) H1 else tb σ H1 Q
def tNotV (ta : TE) : TE := fun σ H Q => ta σ H fun x H1 => ∃ c, x = .bl c ∧ Q (.bl (!c)) H1
theorem pe_one {op} {t : TE} (h : PE X a t) : PE X (.BoolOp op [a] pos) t := fun pins s σ H Q I hw => BoolOp_one (h pins s σ H Q I hw)
theorem pe_and (ha : PE X a ta) (hb : PE X (.BoolOp .And (b :: rest) pos) tb) : PE X (.BoolOp .And (a :: b :: rest) pos) (tAndV ta tb) := by
  intro pins s σ H Q I h
  refine BoolOp_and (thn (ha pins s σ H _ I h) fun v s1 ⟨x, H1, I1, r1, q1⟩ => ?_)
  obtain ⟨c, rfl, q1⟩ := q1
  cases r1
  refine wpAny_truthy_bool ?_
  cases c with
  | true => exact hb pins s1 σ H1 Q I1 q1
  | false => exact ⟨.bl false, H1, I1, rfl, q1⟩
theorem pe_or (ha : PE X a ta) (hb : PE X (.BoolOp .Or (b :: rest) pos) tb) : PE X (.BoolOp .Or (a :: b :: rest) pos) (tOrV ta tb) := by
  intro pins s σ H Q I h
  refine BoolOp_or (thn (ha pins s σ H _ I h) fun v s1 ⟨x, H1, I1, r1, q1⟩ => ?_)
  obtain ⟨c, rfl, q1⟩ := q1
  cases r1
  refine wpAny_truthy_bool ?_
  cases c with
  | false => exact hb pins s1 σ H1 Q I1 q1
  | true => exact ⟨.bl true, H1, I1, rfl, q1⟩
theorem pe_not (ha : PE X a ta) : PE X (.UnaryOp .Not a pos) (tNotV ta) := by
  intro pins s σ H Q I h
  refine UnaryOp_ (thn (ha pins s σ H _ I h) fun v s1 ⟨x, H1, I1, r1, q1⟩ => ?_)
  obtain ⟨c, rfl, q1⟩ := q1
  cases r1
  exact not_of (wpAny_truthy_bool ⟨.bl (!c), H1, I1, rfl, q1⟩)
end
end L2

namespace L2
open PySem PySem.Spec PyProof.Rows

/-! ### a list, a tuple that is read: tracked, frozen, or an object of the module -/
def SqL (K : PySem.W.Frag) (H : Hp) (a : Addr) (xs : List V) : Prop :=
  Rd H a (.lst xs) ∨
    ∃ (o : Obj) (its : Array Value) (n : Nat), K.lookup a = some o ∧ o.cls = .type "list" ∧ o.dict = none ∧ o.data = .seq its n ∧ its.size ≤ sizeLine ∧ Vals xs its.toList
def SqT (K : PySem.W.Frag) (H : Hp) (a : Addr) (xs : List V) : Prop :=
  Rd H a (.tup xs) ∨
    ∃ (o : Obj) (its : Array Value) (n : Nat), K.lookup a = some o ∧ o.cls = .type "tuple" ∧ o.data = .seq its n ∧ its.size ≤ sizeLine ∧ Vals xs its.toList
def absV : Value → Option V
  | .none => some .non
  | .bool b => some (.bl b)
  | .int i _ => some (.int i)
  | .str x _ => some (.str x)
  | .bytes b _ => some (.byt b)
  | .float b _ => some (.flt b)
  | .ref a => some (.ref a)
  | .type n => some (.ty n)
  | _ => none
theorem RelV.abs {x : V} {u : Value} (r : RelV x u) : absV u = some x := by
  cases x with
  | non => cases r; rfl
  | bl _ => cases r; rfl
  | int _ => obtain ⟨t, rfl⟩ := r; rfl
  | str _ => obtain ⟨t, rfl⟩ := r; rfl
  | byt _ => obtain ⟨t, rfl⟩ := r; rfl
  | flt _ => obtain ⟨t, rfl⟩ := r; rfl
  | ref _ => cases r; rfl
  | ty _ => cases r; rfl
theorem RelV.inj {x y : V} {u : Value} (r : RelV x u) (q : RelV y u) : x = y := Option.some.inj (r.abs.symm.trans q.abs)
theorem Vals.inj : ∀ {xs ys : List V} {us : List Value}, Vals xs us → Vals ys us → xs = ys
  | _, _, _, .nil, .nil => rfl
  | _, _, _, .cons r t, .cons r' t' => by rw [r.inj r', Vals.inj t t']
section
variable {X : Cx} {pins : List (Addr × Obj)} {σ : St} {H : Hp} {s : Shared} {a : Addr} {xs ys : List V}
theorem SqL.of {K : PySem.W.Frag} (h : H a = some (.lst xs)) : SqL K H a xs := .inl (.inl h)
theorem SqT.of {K : PySem.W.Frag} (h : H a = some (.tup xs)) : SqT K H a xs := .inl (.inl h)
theorem Inv.list (I : Inv X pins σ H s) (h : SqL X.K H a xs) : ∃ its : List Value, Vals xs its ∧ PlainL s.heap a its.toArray ∧ xs.length ≤ sizeLine := by
  rcases h with h | ⟨o, its, n, hk, hc, hd, hs, hz, r⟩
  · obtain ⟨z, its, n, r, e⟩ := h.ok I.hok
    exact ⟨its, r, ⟨_, n, e, rfl, rfl, rfl⟩, z⟩
  · refine ⟨its.toList, r, ⟨o, n, I.kIn a o hk, hc, hd, by simpa using hs⟩, ?_⟩
    have e := r.length
    simp only [Array.length_toList] at e
    omega
theorem Inv.tuple (I : Inv X pins σ H s) (h : SqT X.K H a xs) : ∃ its : List Value, Vals xs its ∧ IsTup s.heap a its.toArray ∧ xs.length ≤ sizeLine := by
  rcases h with h | ⟨o, its, n, hk, hc, hs, hz, r⟩
  · obtain ⟨z, its, r, p⟩ := h.ok I.hok
    exact ⟨its, r, p, z⟩
  · refine ⟨its.toList, r, ⟨o, I.kIn a o hk, hc, n, by simpa using hs⟩, ?_⟩
    have e := r.length
    simp only [Array.length_toList] at e
    omega
theorem Inv.list_inj (I : Inv X pins σ H s) (h : SqL X.K H a xs) (h' : SqL X.K H a ys) : xs = ys := by
  obtain ⟨its, r, ⟨o, n, e, _, _, d⟩, _⟩ := I.list h
  obtain ⟨its', r', ⟨o', n', e', _, _, d'⟩, _⟩ := I.list h'
  rw [e] at e'; cases e'
  rw [d] at d'
  injection d' with d1 _
  have : its = its' := by simpa using congrArg Array.toList d1
  subst this
  exact r.inj r'
end

/-! ### another wish about exceptions -/
abbrev Cx.wish (X : Cx) (E : Value → Shared → Prop) : Cx := { X with xe := E }
/-- no exception leaves -/
abbrev Cx.nox (X : Cx) : Cx := X.wish fun _ _ => False
theorem Cx.Ok.wish {X : Cx} (ok : X.Ok) (E : Value → Shared → Prop) : (X.wish E).Ok :=
  ⟨ok.mod, ok.kind, ok.glob, ok.blt, ok.above, ok.inj, ok.has, ok.cab, ok.hd, ok.frames, ok.stk, ok.exf, ok.bs, ok.bsz, ok.noex, ok.exfs, ok.funs, ok.frf⟩
theorem Cx.Ok.unwish {X : Cx} {E : Value → Shared → Prop} (ok : (X.wish E).Ok) : X.Ok :=
  ⟨ok.mod, ok.kind, ok.glob, ok.blt, ok.above, ok.inj, ok.has, ok.cab, ok.hd, ok.frames, ok.stk, ok.exf, ok.bs, ok.bsz, ok.noex, ok.exfs, ok.funs, ok.frf⟩
section
variable {X : Cx} {pins : List (Addr × Obj)} {σ : St} {H : Hp} {s : Shared} {E : Value → Shared → Prop}
theorem Inv.wish (I : Inv X pins σ H s) (E : Value → Shared → Prop) : Inv (X.wish E) pins σ H s := ⟨I.ok.wish E, I.os, I.bare, I.base, I.loc, I.cell, I.free, I.freeC, I.pin, I.hok, I.len⟩
theorem Inv.unwish (I : Inv (X.wish E) pins σ H s) : Inv X pins σ H s := ⟨I.ok.unwish, I.os, I.bare, I.base, I.loc, I.cell, I.free, I.freeC, I.pin, I.hok, I.len⟩
theorem SP.unwish {D : Ends} {f : Flow} {s' : Shared} (h : SP (X.wish E) pins D f s') : SP X pins D f s' := by
  cases f with
  | next => obtain ⟨σ', H', I, q⟩ := h; exact ⟨σ', H', I.unwish, q⟩
  | brk => obtain ⟨σ', H', I, q⟩ := h; exact ⟨σ', H', I.unwish, q⟩
  | cont => obtain ⟨σ', H', I, q⟩ := h; exact ⟨σ', H', I.unwish, q⟩
  | ret u => obtain ⟨v, σ', H', I, r, q⟩ := h; exact ⟨v, σ', H', I.unwish, r, q⟩
theorem PE.nox {e : Expr} {t : TE} (h : PE X.nox e t) : PE X e t := fun pins s σ H Q I hw =>
  wpAny_mono (h pins s σ H Q (I.wish _) hw) (fun _ _ ⟨v, H', I', r, q⟩ => ⟨v, H', I'.unwish, r, q⟩) fun _ _ z => False.elim z
theorem PT.nox {e : Expr} {t : TT} (h : PT X.nox e t) : PT X e t := fun pins s σ H Q I hw =>
  wpAny_mono (h pins s σ H Q (I.wish _) hw) (fun _ _ ⟨H', I', q⟩ => ⟨H', I'.unwish, q⟩) fun _ _ z => False.elim z
theorem PSs.nox {st : List Stmt} {t : TS} (h : PSs X.nox st t) : PSs X st t := fun pins s σ H D I hw =>
  wpAny_mono (h pins s σ H D (I.wish _) hw) (fun _ _ q => q.unwish) fun _ _ z => False.elim z
end

/-! ### blocks and small statements -/
section
variable {X : Cx} {st : Stmt} {rest : List Stmt} {t u : TS} {e : Expr} {te : TE} {pos : Pos}
def tNext : TS := fun D σ H => D.nx σ H
def tSeq (t u : TS) : TS := fun D σ H => t { D with nx := u D } σ H
theorem pss_nil : PSs X [] tNext := fun _ _ σ H _ I h => wpAny_execs_nil ⟨σ, H, I, h⟩
theorem pss_cons (h1 : PS X st t) (h2 : PSs X rest u) : PSs X (st :: rest) (tSeq t u) := by
  intro pins s σ H D I h
  refine wpAny_execs_cons (thn (h1 pins s σ H { D with nx := u D } I h) fun f s1 q => ?_)
  cases f with
  | next =>
    obtain ⟨σ', H', I', q⟩ := q
    exact h2 pins s1 σ' H' D I' q
  | ret v => exact q
  | brk => exact q
  | cont => exact q
theorem pss_one (h1 : PS X st t) : PSs X [st] t := by
  intro pins s σ H D I h
  refine wpAny_execs_cons (thn (h1 pins s σ H D I h) fun f s1 q => ?_)
  cases f with
  | next => exact wpAny_execs_nil q
  | ret v => exact q
  | brk => exact q
  | cont => exact q
/-- in a def's body nothing is shown -/
theorem Inv.quiet {pins : List (Addr × Obj)} {σ : St} {H : Hp} {s : Shared} (I : Inv X pins σ H s) : interactive X.env = false := by simp [interactive, I.ok.kind]
/-- an expression whose value is dropped -/
def tDrop (te : TE) : TS := fun D σ H => te σ H fun _ H1 => D.nx σ H1
theorem ps_expr (he : PE X e te) (hs : swapsWith e none pos.line X.env = pure false := by rfl) : PS X (.Expr e pos) (tDrop te) := by
  intro pins s σ H D I h
  exact wpAny_Expr_any (thn (he pins s σ H _ I h) fun v s1 ⟨x, H1, I1, r1, q1⟩ => ⟨σ, H1, I1, q1⟩) I.quiet hs
def tRet (te : TE) : TS := fun D σ H => te σ H D.rt
theorem ps_ret (he : PE X e te) : PS X (.Return (some e) pos) (tRet te) := by
  intro pins s σ H D I h
  exact wpAny_Return_some (thn (he pins s σ H _ I h) fun v s1 ⟨x, H1, I1, r1, q1⟩ => ⟨x, σ, H1, I1, r1, q1⟩)
def tIfS (c : TT) (t u : TS) : TS := fun D σ H => c σ H fun b H1 => if b = true then t D σ H1 else u D σ H1
theorem ps_if {c : Expr} {a b : List Stmt} {tc : TT} (hc : PT X c tc) (ha : PSs X a t) (hb : PSs X b u) : PS X (.If c a b pos) (tIfS tc t u) := by
  intro pins s σ H D I h
  refine wpAny_If (thn (hc pins s σ H _ I h) fun d s1 ⟨H1, I1, q1⟩ => ?_)
  cases d with
  | true => exact ha pins s1 σ H1 D I1 q1
  | false => exact hb pins s1 σ H1 D I1 q1
/-- code that the proof never comes to -/
def tNever : TS := fun _ _ _ => False
theorem pss_never {sts : List Stmt} : PSs X sts tNever := fun _ _ _ _ _ _ h => h.elim
end

/-! ### targets -/
abbrev TG := V → St → Hp → (St → Hp → Prop) → Prop
abbrev TGs := List V → St → Hp → (St → Hp → Prop) → Prop
def PG (X : Cx) (target : Expr) (t : TG) : Prop :=
  ∀ (pins : List (Addr × Obj)) (s : Shared) (σ : St) (H : Hp) (v : V) (u : Value) (Q : St → Hp → Prop), Inv X pins σ H s → RelV v u → t v σ H Q →
    wpAny (model X.prog X.w) X.A (assign target X.env u) (fun _ s' => ∃ σ' H', Inv X pins σ' H' s' ∧ Q σ' H') X.xe s
/-- several targets, one after another -/
def PGs (X : Cx) (ts : List Expr) (t : TGs) : Prop :=
  ∀ (pins : List (Addr × Obj)) (s : Shared) (σ : St) (H : Hp) (vs : List V) (us : List Value) (Q : St → Hp → Prop), Inv X pins σ H s → Vals vs us → t vs σ H Q →
    wpAny (model X.prog X.w) X.A (assignInOrder ((assignEach ts X.env).map (·.2)) us) (fun _ s' => ∃ σ' H', Inv X pins σ' H' s' ∧ Q σ' H') X.xe s
section
variable {X : Cx} {pos : Pos}
def gName (i : Nat) : TG := fun v σ H Q => Q (σ.set i (some v)) H
theorem pg_name {i : Nat} {x : Str} (hN : X.N.Nodup) (hi : X.N[i]? = some x) (hx : Loc X.env.scope x) (hf : X.fn x = true ∨ X.env.scope.names.lookup x = some .local := by first | exact .inl rfl | exact .inr rfl | assumption) : PG X (.Name x pos) (gName i) := by
  intro pins s σ H v u Q I r h
  exact wpAny_assign_Name (store_ok I hN hi hx r (fun s' I' => ⟨_, H, I', h⟩) hf)
def gNil : TGs := fun vs σ H Q => vs = [] ∧ Q σ H
def gCons (t : TG) (u : TGs) : TGs := fun vs σ H Q => ∃ v r, vs = v :: r ∧ t v σ H fun σ' H' => u r σ' H' Q
theorem pgs_nil : PGs X [] gNil := by
  intro pins s σ H vs us Q I r h
  obtain ⟨e, h⟩ := h
  subst e
  cases r
  exact assignInOrder_nil ⟨σ, H, I, h⟩
theorem pgs_cons {e : Expr} {es : List Expr} {t : TG} {u : TGs} (h1 : PG X e t) (h2 : PGs X es u)
    (hs : (assignEach (e :: es) X.env).map (·.2) = assign e X.env :: (assignEach es X.env).map (·.2) := by rfl) : PGs X (e :: es) (gCons t u) := by
  intro pins s σ H vs us Q I r h
  obtain ⟨v, vr, e1, h⟩ := h
  subst e1
  cases r with
  | cons r rr =>
    rw [hs]
    refine assignInOrder_cons (thn (h1 pins s σ H _ _ _ I r h) fun _ s1 ⟨σ1, H1, I1, q1⟩ => ?_)
    exact h2 pins s1 σ1 H1 _ _ Q I1 rr q1
/-- (a, b, ..) = a tuple of that length -/
def gTup (K : PySem.W.Frag) (n : Nat) (t : TGs) : TG := fun v σ H Q => ∃ a xs, v = .ref a ∧ SqT K H a xs ∧ xs.length = n ∧ t xs σ H Q
theorem pg_tup {es : List Expr} {k : Nat} {t : TGs} {n : Nat} (hc : X.calm = true) (h : PGs X es t)
    (hn : (assignEach es X.env).length = n := by rfl) (hst : (assignEach es X.env).findIdx? (·.1) = none := by rfl) : PG X (.Tuple es k pos) (gTup X.K n t) := by
  intro pins s σ H v u Q I r hw
  obtain ⟨a, xs, e1, hq, hl, hw⟩ := hw
  subst e1
  cases r
  obtain ⟨its, rv, ht, hz⟩ := I.tuple hq
  refine assign_Tuple_tuple (I.ok.hd hc) ht (by simp [hn, ← hl, rv.length]) hst fun h' hx => ?_
  have I1 : Inv X pins σ H { s with heap := h' } := I.kept (t' := s.toks) fun b o e => hx b o (Nat.ne_of_lt (Heap.lt_size e)) e
  exact h pins _ σ H xs _ Q I1 (by simpa using rv) hw
/-- target = value -/
def tAsg (te : TE) (g : TG) : TS := fun D σ H => te σ H fun x H1 => g x σ H1 D.nx
theorem ps_asg {tg e : Expr} {te : TE} {g : TG} (he : PE X e te) (hg : PG X tg g) (hs : swapsWithSole [tg] e pos.line X.env = pure false := by rfl) (hw : swappedStores [tg] e X.env = pure none := by rfl)
    (h1 : (assignEach [tg] X.env).map (·.2) = [assign tg X.env] := by rfl) : PS X (.Assign [tg] e pos) (tAsg te g) := by
  intro pins s σ H D I h
  refine wpAny_Assign_stores (thn (he pins s σ H _ I h) fun v s1 ⟨x, H1, I1, r1, q1⟩ => ?_) hs hw
  rw [h1]
  exact thn (hg pins s1 σ H1 x v _ I1 r1 q1) fun _ s2 q => q
/-- name = value -/
theorem ps_set {i : Nat} {x : Str} {e : Expr} {te : TE} {pos' : Pos} (hN : X.N.Nodup) (hi : X.N[i]? = some x) (hx : Loc X.env.scope x) (he : PE X e te) (hs : swapsWith e (some (.Name x pos')) pos.line X.env = pure false := by rfl) (hf : X.fn x = true ∨ X.env.scope.names.lookup x = some .local := by first | exact .inl rfl | exact .inr rfl | assumption) :
    PS X (.Assign [.Name x pos'] e pos) (tAsg te (gName i)) := by
  intro pins s σ H D I h
  refine wpAny_Assign_Name (thn (he pins s σ H _ I h) fun v s1 ⟨y, H1, I1, r1, q1⟩ => ?_) hs
  exact store_ok I1 hN hi hx r1 (fun s2 I2 => ⟨_, H1, I2, q1⟩) hf
end

/-! ### while -/
section
variable {X : Cx} {pos : Pos}
end

/-! ### what a loop or a comprehension walks -/
/-- at turn i: it yields x (the heap may grow), or it stops -/
structure It where
  go : Nat → Hp → Prop
  yld : Nat → Hp → V → Hp → Prop
  stop : Nat → Hp → Prop
/-- the iterator's own objects may turn: they are not the frame's, not pinned, younger than the entry (or a comprehension's own) -/
def FpOk (X : Cx) (pins : List (Addr × Obj)) (H : Hp) (b : Addr) : Prop :=
  H b = none ∧ b ≠ X.env.locals ∧ b ∉ X.fs ∧ (b ∈ X.ex ∨ X.s₀.heap.objs.size ≤ b) ∧ (∀ x c, X.env.cells.lookup x = some c → c ≠ b) ∧ ∀ p ∈ X.pn ++ pins, p.1 ≠ b
theorem Inv.fpOk {X : Cx} {pins : List (Addr × Obj)} {σ : St} {H H' : Hp} {s : Shared} {b : Addr} (I : Inv X pins σ H s) (hb : s.heap.objs.size ≤ b) (hn : H' b = none) : FpOk X pins H' b := by
  refine ⟨hn, Nat.ne_of_gt (Nat.lt_of_lt_of_le I.lt hb), I.nofs hb, .inr (Nat.le_trans I.sz hb), fun x c e z => ?_, fun p hp z => ?_⟩
  · obtain ⟨v, q⟩ := I.cell x c e
    exact absurd (Nat.lt_of_lt_of_le q.lt (by rw [z]; exact hb)) (Nat.lt_irrefl _)
  · exact absurd (Nat.lt_of_lt_of_le (Heap.lt_size (I.pin p hp).1) (by rw [z]; exact hb)) (Nat.lt_irrefl _)
structure Turn (P : Program) (w : World) (K : PySem.W.Frag) (tg : Expr) (J : It) (fp : List Addr) (it : Addr) (tn : Nat → Heap → Prop) : Prop where
  mem : it ∈ fp
  obj : ∀ i h, tn i h → ∀ b ∈ fp, ∃ o, h.get? b = some o ∧ ∀ v, o.data ≠ .cell v
  keep : ∀ i h h', tn i h → (∀ b ∈ fp, ∀ o, h.get? b = some o → h'.get? b = some o) → tn i h'
  item : ∀ (X : Cx), X.prog = P → X.w = w → X.K = K → X.calm = true → ∀ (i : Nat) (pins : List (Addr × Obj)) (s : Shared) (σ : St) (H : Hp) (E : Value → Shared → Prop), Inv X pins σ H s → (∀ b ∈ fp, FpOk X pins H b) → tn i s.heap → J.go i H →
    wpAny (model P w) X.A (pyNext (.ref it)) (fun r s1 => ∃ u, r = some u ∧
      wpAny (model P w) X.A (letOwnedTupleGo tg (.ref it) u) (fun _ s2 => ∃ x H', Inv X pins σ H' s2 ∧ RelV x u ∧ J.yld i H x H' ∧ tn (i + 1) s2.heap ∧ ∀ b ∈ fp, H' b = none) E s1) E s
  done : ∀ (X : Cx), X.prog = P → X.w = w → X.K = K → X.calm = true → ∀ (i : Nat) (pins : List (Addr × Obj)) (s : Shared) (σ : St) (H : Hp) (E : Value → Shared → Prop), Inv X pins σ H s → (∀ b ∈ fp, FpOk X pins H b) → tn i s.heap → J.stop i H →
    wpAny (model P w) X.A (pyNext (.ref it)) (fun r s1 => r = none ∧ Inv X pins σ H s1) E s
  self : ∀ (A : Around) (i : Nat) (s : Shared) (Q : Value → Shared → Prop) (E : Value → Shared → Prop), tn i s.heap → Q (.ref it) s → wpAny (model P w) A (pyIter (.ref it)) Q E s
abbrev TI := St → Hp → (It → Hp → Prop) → Prop
/-- an iterator has come -/
def PIE (X : Cx) (pins : List (Addr × Obj)) (σ : St) (tg : Expr) (R : It → Hp → Prop) (itv : Value) (s2 : Shared) : Prop :=
  ∃ (it : Addr) (fp : List Addr) (tn : Nat → Heap → Prop) (J : It) (H' : Hp), itv = .ref it ∧ Inv X pins σ H' s2 ∧ Turn X.prog X.w X.K tg J fp it tn ∧ tn 0 s2.heap ∧ (∀ b ∈ fp, FpOk X pins H' b) ∧ R J H'
def PI (X : Cx) (tg iter : Expr) (wi : TI) : Prop :=
  ∀ (pins : List (Addr × Obj)) (s : Shared) (σ : St) (H : Hp) (R : It → Hp → Prop), Inv X pins σ H s → wi σ H R →
    wpAny (model X.prog X.w) X.A (eval iter X.env) (fun v s1 => wpAny (model X.prog X.w) X.A (pyIter v) (PIE X pins σ tg R) X.xe s1) X.xe s

/-- the step ahead of the store is nothing for an iterator that keeps no tuple -/
theorem go_of {M : Model} {A : Around} {E : Value → Shared → Prop} {s : Shared} {tg : Expr} {it : Addr} {u : Value} {o : Obj} {n : String} {vs : Array Value} {Q : Unit → Shared → Prop} (ho : s.heap.get? it = some o) (hc : o.cls = .type n) (hd : o.data = .fields vs)
    (hn : ["enumerate", "zip", "dict_itemiterator", "dict_reverseitemiterator", "odict_iterator", "itertools.zip_longest", "itertools.pairwise"].contains n = false) (hQ : Q () s) : wpAny M A (letOwnedTupleGo tg (.ref it) u) Q E s := by
  unfold letOwnedTupleGo
  cases tg <;> first
    | exact wpAny_pure hQ
    | (cases u <;> first
        | exact wpAny_pure hQ
        | (refine wpAny_bind (wpAny_load ho ?_)
           rw [hc, hd]
           show wpAny M A (if (["enumerate", "zip", "dict_itemiterator", "dict_reverseitemiterator", "odict_iterator", "itertools.zip_longest", "itertools.pairwise"].contains n && vs[0]? == some (rawInt _)) = true then _ else _) Q E s
           rw [if_neg (by intro h; rw [hn, Bool.false_and] at h; cases h)]
           exact wpAny_pure hQ))

/-- the list at a, as it stands at each turn (a loop may append to it) -/
def Itl (K : PySem.W.Frag) (a : Addr) : It :=
  ⟨fun i H => ∃ xs x, SqL K H a xs ∧ xs[i]? = some x, fun i H x H' => H' = H ∧ ∀ xs, SqL K H a xs → xs[i]? = some x, fun i H => ∃ xs, SqL K H a xs ∧ xs.length ≤ i⟩
theorem turn_list {P : Program} {w : World} {K : PySem.W.Frag} {tg : Expr} (a it : Addr) : Turn P w K tg (Itl K a) [it] it (fun i h => h.IsListIter it a i) where
  mem := by simp
  obj := fun i h st b hb => by
    have e : b = it := by simpa using hb
    subst e
    obtain ⟨o, e, c, d⟩ := st
    exact ⟨o, e, fun v z => by rw [d] at z; cases z⟩
  keep := fun i h h' st k => st.at fun o e => k it (by simp) o e
  item := by
    intro X hP hw hK hc i pins s σ H E I hf st hg
    subst hP hw hK
    obtain ⟨xs, x, hq, hx⟩ := hg
    obtain ⟨its, rv, p, hz⟩ := I.list hq
    obtain ⟨u, hu, ru⟩ := rv.get hx
    obtain ⟨f0, f1, f2, f3, f4, f5⟩ := hf it (by simp)
    refine wpAny_pyNext_list_item st p.isList (x := u) (by simpa using hu) fun h' st' sb => ?_
    have I1 : Inv X pins σ H { s with heap := h' } := I.turned (t' := s.toks) (fun b o hb e => (sb.2 b hb).trans e) f0 f1 f3 f4 f5
    obtain ⟨o, e, c, d⟩ := id st'
    exact ⟨u, rfl, go_of (s := { s with heap := h' }) e c d (by decide) ⟨x, H, I1, ru, ⟨rfl, fun ys hy => by rw [I.list_inj hy hq]; exact hx⟩, st', fun b hb => (hf b hb).1⟩⟩
  done := by
    intro X hP hw hK hc i pins s σ H E I hf st hg
    subst hP hw hK
    obtain ⟨xs, hq, hx⟩ := hg
    obtain ⟨its, rv, p, hz⟩ := I.list hq
    obtain ⟨f0, f1, f2, f3, f4, f5⟩ := hf it (by simp)
    have hl := rv.length
    exact wpAny_pyNext_list_end (I.ok.hd hc) st p.isList (by simp; omega) fun h' eb => ⟨rfl, I.turned (t' := s.toks) (fun b o hb e => eb b o hb e) f0 f1 f3 f4 f5⟩
  self := fun _ _ _ _ _ st h => wpAny_pyIter_listiter st h
end L2

namespace L2
open PySem PySem.Spec PyProof.Rows
section
variable {X : Cx} {tg : Expr}
def iList (K : PySem.W.Frag) (tl : TE) : TI := fun σ H R => tl σ H fun x H1 => ∃ a, x = .ref a ∧ (∃ xs, SqL K H1 a xs) ∧ R (Itl K a) H1
theorem pi_list {l : Expr} {tl : TE} (hl : PE X l tl) : PI X tg l (iList X.K tl) := by
  intro pins s σ H R I h
  refine thn (hl pins s σ H _ I h) fun v s1 ⟨x, H1, I1, r1, q1⟩ => ?_
  obtain ⟨a, e, ⟨xs, hq⟩, q⟩ := q1
  subst e
  cases r1
  obtain ⟨its, rv, p, hz⟩ := I1.list hq
  refine wpAny_pyIter_list p.isList ?_
  refine ⟨s1.heap.objs.size, [s1.heap.objs.size], _, _, H1, rfl, I1.kept (t' := s1.toks) fun b o e => Heap.get?_push_of_some _ e, turn_list a _, ⟨_, Heap.get?_push_size _ rfl, rfl, rfl⟩, fun b hb => ?_, q⟩
  have e : b = s1.heap.objs.size := by simpa using hb
  subst e
  exact I1.fpOk (Nat.le_refl _) (I1.hok.fresh (Nat.le_refl _))
/-! ### for -/
/-- W: the invariant by the turn and a measure; N: what the body is to reach -/
def tFor (wi : TI) (g : TG) (tb : TS) : TS := fun D σ H => wi σ H fun J H1 => ∃ W : Nat → Nat → St → Hp → Prop, (∃ m, W 0 m σ H1) ∧ ∀ i m σ H, W i m σ H →
  (J.stop i H ∧ D.nx σ H) ∨ (J.go i H ∧ ∃ N : St → Hp → Prop, (∀ σ' H', N σ' H' → ∃ m', m' < m ∧ W (i + 1) m' σ' H') ∧ ∀ x H', J.yld i H x H' → g x σ H' fun σ2 H2 => tb { D with nx := N, ct := N, bk := D.nx } σ2 H2)
/-- the records at fp as they stand -/
def pinsAt (fp : List Addr) (h : Heap) : List (Addr × Obj) := fp.filterMap fun b => (h.get? b).map fun o => (b, o)
theorem mem_pinsAt {fp : List Addr} {h : Heap} {b : Addr} {o : Obj} (hb : b ∈ fp) (e : h.get? b = some o) : (b, o) ∈ pinsAt fp h := List.mem_filterMap.mpr ⟨b, hb, by rw [e]; rfl⟩
theorem of_pinsAt {fp : List Addr} {h : Heap} {p : Addr × Obj} (hp : p ∈ pinsAt fp h) : p.1 ∈ fp ∧ h.get? p.1 = some p.2 := by
  obtain ⟨b, hb, e⟩ := List.mem_filterMap.mp hp
  cases q : h.get? b with
  | none => rw [q] at e; cases e
  | some o =>
    rw [q] at e
    have e' : (b, o) = p := Option.some.inj e
    subst e'
    exact ⟨hb, q⟩
theorem Inv.pinned {pins : List (Addr × Obj)} {σ : St} {H : Hp} {s : Shared} {fp : List Addr} (I : Inv X pins σ H s) (hf : ∀ b ∈ fp, FpOk X pins H b) (ho : ∀ b ∈ fp, ∃ o, s.heap.get? b = some o ∧ ∀ v, o.data ≠ .cell v) : Inv X (pins ++ pinsAt fp s.heap) σ H s :=
  I.pins_of fun p hp => (List.mem_append.mp hp).elim (fun z => I.pin p (List.mem_append_right _ z)) fun z => by
    obtain ⟨hb, e⟩ := of_pinsAt z
    obtain ⟨f0, f1, f2, _⟩ := hf p.1 hb
    obtain ⟨o, e', d⟩ := ho p.1 hb
    rw [e] at e'; cases e'
    exact ⟨e, f0, f1, f2, d⟩
theorem Inv.unpinned {pins pl : List (Addr × Obj)} {σ : St} {H : Hp} {s : Shared} (I : Inv X (pins ++ pl) σ H s) : Inv X pins σ H s := I.pins_of fun p hp => I.pin p (List.mem_append_right _ (List.mem_append_left _ hp))
theorem ps_for {iter : Expr} {body : List Stmt} {wi : TI} {g : TG} {tb : TS} {pos : Pos} (hp : PassesOwn (model X.prog X.w) X.A X.env X.xe) (hc : X.calm = true) (hi : PI X tg iter wi) (hg : PG X tg g) (hb : PSs X body tb)
    (hs : ∀ x, foldedSetIterable iter X.env x = pure x := by intro _; rfl) : PS X (.For tg iter body [] pos) (tFor wi g tb) := by
  intro pins s σ H D I h
  refine wpAny_For (thn (hi pins s σ H _ I h) fun v s1 h1 => thn h1 fun itv s2 h2 => ?_) hs
  obtain ⟨it, fp, tn, J, H2, e, I2, T, st2, f2, W, ⟨m0, w0⟩, turn⟩ := h2
  subst e
  -- what stays true of the iterator's objects through the loop
  have stat : ∀ {H' : Hp}, (∀ b ∈ fp, H' b = none) → ∀ b ∈ fp, FpOk X pins H' b := fun hn b hb => ⟨hn b hb, (f2 b hb).2⟩
  refine codeAny_forLoop_any (fun n s' => ∃ i σ' H', Inv X pins σ' H' s' ∧ tn i s'.heap ∧ (∀ b ∈ fp, H' b = none) ∧ W i n σ' H') ?_ m0 ⟨0, σ, H2, I2, st2, fun b hb => (f2 b hb).1, w0⟩
  rintro n s3 ⟨i, σ3, H3, I3, st3, fr3, w3⟩
  rcases turn i n σ3 H3 w3 with ⟨stop, qn⟩ | ⟨go, N, hN, step⟩
  · refine wpAny_passesOwn hp (thn (T.done X rfl rfl rfl hc i pins s3 σ3 H3 X.xe I3 (stat fr3) st3 stop) fun r s4 ⟨hr, I4⟩ => ?_)
    subst hr
    exact wpAny_execs_nil ⟨σ3, H3, I4, qn⟩
  · refine wpAny_passesOwn hp (thn (T.item X rfl rfl rfl hc i pins s3 σ3 H3 X.xe I3 (stat fr3) st3 go) fun r s4 ⟨u, hr, h4⟩ => ?_)
    subst hr
    refine wpAny_passesOwn hp (thn h4 fun _ s5 ⟨x, H5, I5, r5, y5, st5, fr5⟩ => ?_)
    have I5' := I5.pinned (stat fr5) (T.obj _ _ st5)
    refine wpAny_passesOwn hp (thn (hg _ s5 σ3 H5 x u _ I5' r5 (step x H5 y5)) fun _ s6 ⟨σ6, H6, I6, q6⟩ => ?_)
    refine wpAny_passesOwn hp (thn (hb _ s6 σ6 H6 _ I6 q6) fun f s7 q7 => ?_)
    have again : ∀ {σ7 : St} {H7 : Hp}, Inv X (pins ++ pinsAt fp s5.heap) σ7 H7 s7 → N σ7 H7 → ∃ m, m < n ∧ ∃ i σ' H', Inv X pins σ' H' s7 ∧ tn i s7.heap ∧ (∀ b ∈ fp, H' b = none) ∧ W i m σ' H' := fun {σ7 H7} I7 n7 => by
      obtain ⟨m', hm, w7⟩ := hN σ7 H7 n7
      refine ⟨m', hm, i + 1, σ7, H7, I7.unpinned, T.keep _ _ _ st5 fun b hb o e => (I7.pin (b, o) (List.mem_append_right _ (List.mem_append_right _ (mem_pinsAt hb e)))).1, fun b hb => ?_, w7⟩
      obtain ⟨o, e, d⟩ := T.obj _ _ st5 b hb
      exact (I7.pin (b, o) (List.mem_append_right _ (List.mem_append_right _ (mem_pinsAt hb e)))).2.1
    cases f with
    | next => obtain ⟨σ7, H7, I7, n7⟩ := q7; exact again I7 n7
    | cont => obtain ⟨σ7, H7, I7, n7⟩ := q7; exact again I7 n7
    | brk => obtain ⟨σ7, H7, I7, q7⟩ := q7; exact ⟨σ7, H7, I7.unpinned, q7⟩
    | ret v => obtain ⟨x7, σ7, H7, I7, r7, q7⟩ := q7; exact ⟨x7, σ7, H7, I7.unpinned, r7, q7⟩
end

/-! ### the forms one uses -/
/-- over a list that the body leaves as it is -/
theorem for_list {K : PySem.W.Frag} {a : Addr} {xs : List V} {g : TG} {tb : TS} {D : Ends} {σ : St} {H : Hp} (Pv : Nat → St → Hp → Prop) (h0 : Pv 0 σ H) (hl : ∀ i σ H, i ≤ xs.length → Pv i σ H → SqL K H a xs)
    (hs : ∀ i x σ H, xs[i]? = some x → Pv i σ H → g x σ H fun σ2 H2 => tb { D with nx := Pv (i + 1), ct := Pv (i + 1), bk := D.nx } σ2 H2) (hd : ∀ σ H, Pv xs.length σ H → D.nx σ H) :
    ∃ W : Nat → Nat → St → Hp → Prop, (∃ m, W 0 m σ H) ∧ ∀ i m σ H, W i m σ H →
      ((Itl K a).stop i H ∧ D.nx σ H) ∨ ((Itl K a).go i H ∧ ∃ N : St → Hp → Prop, (∀ σ' H', N σ' H' → ∃ m', m' < m ∧ W (i + 1) m' σ' H') ∧ ∀ x H', (Itl K a).yld i H x H' → g x σ H' fun σ2 H2 => tb { D with nx := N, ct := N, bk := D.nx } σ2 H2) := by
  refine ⟨fun i m σ H => m = xs.length - i ∧ i ≤ xs.length ∧ Pv i σ H, ⟨xs.length, by simp, Nat.zero_le _, h0⟩, ?_⟩
  rintro i m σ H ⟨rfl, hi, p⟩
  have q := hl i σ H hi p
  by_cases hlt : i < xs.length
  · refine .inr ⟨⟨xs, xs[i], q, by simp [hlt]⟩, Pv (i + 1), fun σ' H' p' => ⟨xs.length - (i + 1), by omega, rfl, hlt, p'⟩, fun x H' y => ?_⟩
    obtain ⟨e, y⟩ := y
    subst e
    exact hs i x σ _ (y xs q) p
  · have e : i = xs.length := by omega
    subst e
    exact .inl ⟨⟨xs, q, Nat.le_refl _⟩, hd σ H p⟩
end L2

namespace L2
open PySem PySem.Spec PyProof.Rows

abbrev R2 := V → V → Hp → VK → Prop
/-- a two-place operation on values: f is binaryOp op, inplaceOp op or compareOp op -/
def OpR (X : Cx) (f : Value → Value → Sem Value) (r : R2) : Prop :=
  ∀ (pins : List (Addr × Obj)) (s : Shared) (σ : St) (H : Hp) (x y : V) (v u : Value) (Q : VK), Inv X pins σ H s → RelV x v → RelV y u → r x y H Q →
    wpAny (model X.prog X.w) X.A (f v u) (EP X pins σ Q) X.xe s
/-- a one-place operation -/
def UnR (X : Cx) (f : Value → Sem Value) (r : V → Hp → VK → Prop) : Prop :=
  ∀ (pins : List (Addr × Obj)) (s : Shared) (σ : St) (H : Hp) (x : V) (v : Value) (Q : VK), Inv X pins σ H s → RelV x v → r x H Q →
    wpAny (model X.prog X.w) X.A (f v) (EP X pins σ Q) X.xe s
/-- a call of a value that is known (a builtin, a type) with values -/
def CallR (X : Cx) (f : Value) (r : List V → Hp → VK → Prop) : Prop :=
  ∀ (pins : List (Addr × Obj)) (s : Shared) (σ : St) (H : Hp) (xs : List V) (us : List Value) (Q : VK), Inv X pins σ H s → Vals xs us → r xs H Q →
    wpAny (model X.prog X.w) X.A (call f us) (EP X pins σ Q) X.xe s
def tOp (r : R2) (ta tb : TE) : TE := fun σ H Q => ta σ H fun x H1 => tb σ H1 fun y H2 => r x y H2 Q
def tUn (r : V → Hp → VK → Prop) (ta : TE) : TE := fun σ H Q => ta σ H fun x H1 => r x H1 Q
/-- ints in, under C, and a value out -/
def rI (C : Int → Int → Prop) (g : Int → Int → V) : R2 := fun x y H Q => ∃ i j, x = .int i ∧ y = .int j ∧ C i j ∧ Q (g i j) H
def rI0 (g : Int → Int → V) : R2 := fun x y H Q => ∃ i j, x = .int i ∧ y = .int j ∧ Q (g i j) H
def rU (g : Int → V) : V → Hp → VK → Prop := fun x H Q => ∃ i, x = .int i ∧ Q (g i) H

section
variable {X : Cx} {a b c : Expr} {ta tb tc : TE} {pos : Pos}

theorem binT (ha : PE X a ta) (hb : PE X b tb) {pins : List (Addr × Obj)} {s : Shared} {σ : St} {H : Hp} {R : V → V → Hp → Prop} (I : Inv X pins σ H s)
    (h : ta σ H fun x H1 => tb σ H1 fun y H2 => R x y H2) {Q : Value → Shared → Prop} {f : Value → Value → Sem Value}
    (hf : ∀ v u s2 x y H2, Inv X pins σ H2 s2 → RelV x v → RelV y u → R x y H2 → wpAny (model X.prog X.w) X.A (f v u) Q X.xe s2) :
    wpAny (model X.prog X.w) X.A (eval a X.env) (fun v s₁ => wpAny (model X.prog X.w) X.A (eval b X.env) (fun u s₂ => wpAny (model X.prog X.w) X.A (f v u) Q X.xe s₂) X.xe s₁) X.xe s := by
  refine thn (ha pins s σ H _ I h) fun v s1 ⟨x, H1, I1, r1, q1⟩ => ?_
  refine thn (hb pins s1 σ H1 _ I1 q1) fun u s2 ⟨y, H2, I2, r2, q2⟩ => ?_
  exact hf v u s2 x y H2 I2 r1 r2 q2

theorem pe_op {op : Operator} {r : R2} (ho : OpR X (binaryOp op) r) (ha : PE X a ta) (hb : PE X b tb) : PE X (.BinOp a op b pos) (tOp r ta tb) := by
  intro pins s σ H Q I h
  exact wpAny_BinOp (binT ha hb I h fun v u s2 x y H2 I2 rx ry q => ho pins s2 σ H2 x y v u Q I2 rx ry q)
theorem pe_un {op : UnaryOp} {r : V → Hp → VK → Prop} (ho : UnR X (unaryOp op) r) (ha : PE X a ta) : PE X (.UnaryOp op a pos) (tUn r ta) := by
  intro pins s σ H Q I h
  exact UnaryOp_ (thn (ha pins s σ H _ I h) fun v s1 ⟨x, H1, I1, r1, q1⟩ => ho pins s1 σ H1 x v Q I1 r1 q1)
/-! ### ints -/
theorem opI {f : Value → Value → Sem Value} {C : Int → Int → Prop} {g : Int → Int → Int}
    (rule : ∀ (i j : Int) (t u : Tok) (s : Shared) (Q : Value → Shared → Prop) (E : Value → Shared → Prop), C i j → Q (.int (g i j) s.toks) { s with toks := s.toks + 1 } → wpAny (model X.prog X.w) X.A (f (.int i t) (.int j u)) Q E s) :
    OpR X f (rI C fun i j => .int (g i j)) := by
  intro pins s σ H x y v u Q I rx ry h
  obtain ⟨i, j, rfl, rfl, hc, q⟩ := h
  obtain ⟨t, rfl⟩ := rx
  obtain ⟨t', rfl⟩ := ry
  exact rule i j t t' s _ _ hc ⟨.int (g i j), H, I.tok _, ⟨_, rfl⟩, q⟩
theorem opI0 {f : Value → Value → Sem Value} {g : Int → Int → Int}
    (rule : ∀ (i j : Int) (t u : Tok) (s : Shared) (Q : Value → Shared → Prop) (E : Value → Shared → Prop), Q (.int (g i j) s.toks) { s with toks := s.toks + 1 } → wpAny (model X.prog X.w) X.A (f (.int i t) (.int j u)) Q E s) :
    OpR X f (rI0 fun i j => .int (g i j)) := by
  intro pins s σ H x y v u Q I rx ry h
  obtain ⟨i, j, rfl, rfl, q⟩ := h
  obtain ⟨t, rfl⟩ := rx
  obtain ⟨t', rfl⟩ := ry
  exact rule i j t t' s _ _ ⟨.int (g i j), H, I.tok _, ⟨_, rfl⟩, q⟩
theorem opB0 {f : Value → Value → Sem Value} {g : Int → Int → Bool}
    (rule : ∀ (i j : Int) (t u : Tok) (s : Shared) (Q : Value → Shared → Prop) (E : Value → Shared → Prop), Q (.bool (g i j)) s → wpAny (model X.prog X.w) X.A (f (.int i t) (.int j u)) Q E s) :
    OpR X f (rI0 fun i j => .bl (g i j)) := by
  intro pins s σ H x y v u Q I rx ry h
  obtain ⟨i, j, rfl, rfl, q⟩ := h
  obtain ⟨t, rfl⟩ := rx
  obtain ⟨t', rfl⟩ := ry
  exact rule i j t t' s _ _ ⟨.bl (g i j), H, I, rfl, q⟩

def CDiv (i j : Int) : Prop := 0 < j ∧ j < 1073741824
def CMul (i j : Int) : Prop := (-(2 ^ 64) < i ∧ i < 2 ^ 64) ∨ (-(2 ^ 64) < j ∧ j < 2 ^ 64)
theorem CMul.ok {i j : Int} (h : CMul i j) : IntMulOk i j := by
  rcases h with ⟨h1, h2⟩ | ⟨h1, h2⟩
  · exact .of_left (intBits_le_64 h1 h2)
  · exact .of_right (intBits_le_64 h1 h2)
theorem op_add : OpR X (binaryOp .Add) (rI0 fun i j => .int (i + j)) := opI0 fun _ _ _ _ _ _ _ q => add_int q
/-- // by a positive divisor -/
theorem op_fdiv : OpR X (binaryOp .FloorDiv) (rI CDiv fun i j => .int (i / j)) := opI fun i j _ _ _ _ _ hc q => by
  have h1 : (0 : Int) < j := hc.1
  have h2 : j < 1073741824 := hc.2
  exact floordiv_int (by omega) (by rw [Int.fdiv_eq_ediv_of_nonneg i (by omega)]; exact q) (.inl (PyProof.noPylong_small (by omega)))
/-- % by a positive divisor of any size -/
theorem op_mod : OpR X (binaryOp .Mod) (rI (fun _ j => 0 < j) fun i j => .int (i % j)) := opI fun i j _ _ _ _ _ hc q => by
  have h1 : (0 : Int) < j := hc
  exact mod_int' (by omega) (by rw [Int.fmod_eq_emod_of_nonneg i (by omega)]; exact q)
theorem unI {f : Value → Sem Value} {g : Int → Int}
    (rule : ∀ (i : Int) (t : Tok) (s : Shared) (Q : Value → Shared → Prop) (E : Value → Shared → Prop), Q (.int (g i) s.toks) { s with toks := s.toks + 1 } → wpAny (model X.prog X.w) X.A (f (.int i t)) Q E s) :
    UnR X f (rU fun i => .int (g i)) := by
  intro pins s σ H x v Q I rx h
  obtain ⟨i, rfl, q⟩ := h
  obtain ⟨t, rfl⟩ := rx
  exact rule i t s _ _ ⟨.int (g i), H, I.tok _, ⟨_, rfl⟩, q⟩
theorem un_neg : UnR X (unaryOp .USub) (rU fun i => .int (-i)) := unI fun _ _ _ _ _ q => neg_int q
/-! ### bools among ints: n += (a < b) -/
end

/-! ### comparisons -/
/-- the scalars that == tells apart as data does -/
def scal : V → V → Bool
  | .non, .non => true | .non, .int _ => true | .int _, .non => true | .non, .bl _ => true | .bl _, .non => true | .non, .str _ => true | .str _, .non => true
  | .int _, .int _ => true | .bl _, .bl _ => true | .str _, .str _ => true | .byt _, .byt _ => true
  | .int _, .str _ => true | .str _, .int _ => true | .bl _, .str _ => true | .str _, .bl _ => true
  | _, _ => false
def rEq : R2 := fun x y H Q => scal x y = true ∧ Q (.bl (decide (x = y))) H
def rNe : R2 := fun x y H Q => scal x y = true ∧ Q (.bl (!decide (x = y))) H

theorem dec_int {i j : Int} : decide (V.int i = V.int j) = (i == j) := by
  rw [Bool.eq_iff_iff]
  simp
theorem dec_bl {i j : Bool} : decide (V.bl i = V.bl j) = (i == j) := by
  rw [Bool.eq_iff_iff]
  simp
theorem dec_str {i j : Str} : decide (V.str i = V.str j) = (i == j) := by
  rw [Bool.eq_iff_iff]
  simp
theorem dec_byt {i j : Array UInt8} : decide (V.byt i = V.byt j) = (i.toList == j.toList) := by
  rw [Bool.eq_iff_iff]
  cases i
  cases j
  simp

section
variable {X : Cx} {a b c : Expr} {ta tb tc : TE} {pos : Pos}
theorem fin_bl {pins : List (Addr × Obj)} {σ : St} {H : Hp} {s : Shared} {Q : VK} {k k' : Bool} (I : Inv X pins σ H s) (q : Q (.bl k) H) (e : k = k') : EP X pins σ Q (.bool k') s := by
  subst e
  exact ⟨.bl k, H, I, rfl, q⟩
theorem op_eq : OpR X (compareOp .Eq) rEq := by
  intro pins s σ H x y v u Q I rx ry h
  obtain ⟨hs, q⟩ := h
  cases x with
  | non =>
    cases rx
    cases y with
    | non => cases ry; exact PySem.EqNone.eq_none_none (fin_bl I q (by simp))
    | bl j => cases ry; exact PySem.EqNone.eq_none_bool (fin_bl I q (by simp))
    | int j => obtain ⟨t', rfl⟩ := ry; exact PySem.EqNone.eq_none_int (fin_bl I q (by simp))
    | str j => obtain ⟨t', rfl⟩ := ry; exact PySem.EqNone.eq_none_str (fin_bl I q (by simp))
    | _ => exact absurd (show false = true from hs) Bool.false_ne_true
  | bl i =>
    cases rx
    cases y with
    | non => cases ry; exact PySem.EqNone.eq_bool_none (fin_bl I q (by simp))
    | bl j => cases ry; exact eq_bool (fin_bl I q dec_bl)
    | str j => obtain ⟨t', rfl⟩ := ry; exact PySem.EqMixed.eq_bool_str (fin_bl I q (by simp))
    | _ => exact absurd (show false = true from hs) Bool.false_ne_true
  | int i =>
    obtain ⟨t, rfl⟩ := rx
    cases y with
    | non => cases ry; exact PySem.EqNone.eq_int_none (fin_bl I q (by simp))
    | int j => obtain ⟨t', rfl⟩ := ry; exact eq_int (fin_bl I q dec_int)
    | str j => obtain ⟨t', rfl⟩ := ry; exact PySem.EqMixed.eq_int_str (fin_bl I q (by simp))
    | _ => exact absurd (show false = true from hs) Bool.false_ne_true
  | str i =>
    obtain ⟨t, rfl⟩ := rx
    cases y with
    | non => cases ry; exact PySem.EqNone.eq_str_none (fin_bl I q (by simp))
    | bl j => cases ry; exact PySem.EqMixed.eq_str_bool (fin_bl I q (by simp))
    | int j => obtain ⟨t', rfl⟩ := ry; exact PySem.EqMixed.eq_str_int (fin_bl I q (by simp))
    | str j => obtain ⟨t', rfl⟩ := ry; exact eq_str (fin_bl I q dec_str)
    | _ => exact absurd (show false = true from hs) Bool.false_ne_true
  | byt i =>
    obtain ⟨t, rfl⟩ := rx
    cases y with
    | byt j => obtain ⟨t', rfl⟩ := ry; exact PySem.W.eq_bytes (fin_bl I q dec_byt)
    | _ => exact absurd (show false = true from hs) Bool.false_ne_true
  | _ => cases y <;> exact absurd (show false = true from hs) Bool.false_ne_true
theorem op_ne : OpR X (compareOp .NotEq) rNe := by
  intro pins s σ H x y v u Q I rx ry h
  obtain ⟨hs, q⟩ := h
  cases x with
  | non =>
    cases rx
    cases y with
    | non => cases ry; exact PySem.EqNone.ne_none_none (fin_bl I q (by simp))
    | bl j => cases ry; exact PySem.EqNone.ne_none_bool (fin_bl I q (by simp))
    | int j => obtain ⟨t', rfl⟩ := ry; exact PySem.EqNone.ne_none_int (fin_bl I q (by simp))
    | str j => obtain ⟨t', rfl⟩ := ry; exact PySem.EqNone.ne_none_str (fin_bl I q (by simp))
    | _ => exact absurd (show false = true from hs) Bool.false_ne_true
  | bl i =>
    cases rx
    cases y with
    | non => cases ry; exact PySem.EqNone.ne_bool_none (fin_bl I q (by simp))
    | bl j => cases ry; exact ne_bool (fin_bl I q (congrArg not dec_bl))
    | str j => obtain ⟨t', rfl⟩ := ry; exact PySem.EqMixed.ne_bool_str (fin_bl I q (by simp))
    | _ => exact absurd (show false = true from hs) Bool.false_ne_true
  | int i =>
    obtain ⟨t, rfl⟩ := rx
    cases y with
    | non => cases ry; exact PySem.EqNone.ne_int_none (fin_bl I q (by simp))
    | int j => obtain ⟨t', rfl⟩ := ry; exact ne_int (fin_bl I q (congrArg not dec_int))
    | str j => obtain ⟨t', rfl⟩ := ry; exact PySem.EqMixed.ne_int_str (fin_bl I q (by simp))
    | _ => exact absurd (show false = true from hs) Bool.false_ne_true
  | str i =>
    obtain ⟨t, rfl⟩ := rx
    cases y with
    | non => cases ry; exact PySem.EqNone.ne_str_none (fin_bl I q (by simp))
    | bl j => cases ry; exact PySem.EqMixed.ne_str_bool (fin_bl I q (by simp))
    | int j => obtain ⟨t', rfl⟩ := ry; exact PySem.EqMixed.ne_str_int (fin_bl I q (by simp))
    | str j => obtain ⟨t', rfl⟩ := ry; exact ne_str (fin_bl I q (congrArg not dec_str))
    | _ => exact absurd (show false = true from hs) Bool.false_ne_true
  | byt i =>
    obtain ⟨t, rfl⟩ := rx
    cases y with
    | byt j => obtain ⟨t', rfl⟩ := ry; exact PySem.W.ne_bytes (fin_bl I q (congrArg not dec_byt))
    | _ => exact absurd (show false = true from hs) Bool.false_ne_true
  | _ => cases y <;> exact absurd (show false = true from hs) Bool.false_ne_true

theorem op_le : OpR X (compareOp .LtE) (rI0 fun i j => .bl (decide (i ≤ j))) := opB0 fun _ _ _ _ _ _ _ q => le_int q
theorem op_ge : OpR X (compareOp .GtE) (rI0 fun i j => .bl (decide (j ≤ i))) := opB0 fun _ _ _ _ _ _ _ q => ge_int q
/-- the one string within the other -/
theorem op_in_str : OpR X (compareOp .In) (fun x y H Q => ∃ i j, x = .str i ∧ y = .str j ∧ Q (.bl (!(Builtin.Str.occurrences j i 0 j.length 1).isEmpty)) H) := by
  intro pins s σ H x y v u Q I rx ry h
  obtain ⟨i, j, rfl, rfl, q⟩ := h
  obtain ⟨t, rfl⟩ := rx
  obtain ⟨t', rfl⟩ := ry
  exact in_str (fin_bl I q rfl)

/-- two rules for one operation: by cases -/
theorem OpR.or {f : Value → Value → Sem Value} {r r' : R2} (h : OpR X f r) (h' : OpR X f r') : OpR X f (fun x y H Q => r x y H Q ∨ r' x y H Q) := by
  intro pins s σ H x y v u Q I rx ry q
  rcases q with q | q
  · exact h pins s σ H x y v u Q I rx ry q
  · exact h' pins s σ H x y v u Q I rx ry q

theorem nomark (b : Expr) {op : CmpOp} (h : op ≠ .In := by decide) (h2 : op ≠ .NotIn := by decide) : behindInMarks op b = false := by
  have e1 : (op == CmpOp.In) = false := by cases op <;> first | rfl | exact absurd rfl h
  have e2 : (op == CmpOp.NotIn) = false := by cases op <;> first | rfl | exact absurd rfl h2
  cases b <;> simp [behindInMarks, e1, e2]
/-- a comparison as a value; hm: nomark b, or (for in, not in) by with_unfolding_all rfl -/
theorem pe_cmpR {op : CmpOp} {r : R2} (ho : OpR X (compareOp op) r) (ha : PE X a ta) (hb : PE X b tb) (hm : behindInMarks op b = false) : PE X (.Compare a [op] [b] pos) (tOp r ta tb) := by
  intro pins s σ H Q I h
  exact wpAny_Compare1 (binT ha hb I h fun v u s2 x y H2 I2 rx ry q => ho pins s2 σ H2 x y v u Q I2 rx ry q) hm
/-- a reading of a value as a test -/
def tTest (t : TE) : TT := fun σ H Q => t σ H fun x H' => ∃ k, x = .bl k ∧ Q k H'
theorem pt_cmpR {op : CmpOp} {r : R2} (ho : OpR X (compareOp op) r) (ha : PE X a ta) (hb : PE X b tb) (hm : behindInMarks op b = false) : PT X (.Compare a [op] [b] pos) (tTest (tOp r ta tb)) := by
  intro pins s σ H Q I h
  refine wpAny_isTrue_Compare1 (thn (ha pins s σ H _ I h) fun v s1 ⟨x, H1, I1, r1, q1⟩ => thn (hb pins s1 σ H1 _ I1 q1) fun u s2 ⟨y, H2, I2, r2, q2⟩ =>
    thn (ho pins s2 σ H2 x y v u _ I2 r1 r2 q2) fun c s3 ⟨z, H3, I3, r3, k, e, q3⟩ => ?_) hm
  subst e
  cases r3
  exact wpAny_truthy_bool ⟨H3, I3, q3⟩
/-- a op1 b op2 c -/
def tChain (r r' : R2) (ta tb tc : TE) : TE := fun σ H Q => ta σ H fun x H1 => tb σ H1 fun y H2 => r x y H2 fun z H3 => ∃ k, z = .bl k ∧
  (if k = true then tc σ H3 fun w' H4 => r' y w' H4 Q else Q (.bl false) H3)
theorem pt_chain {op op' : CmpOp} {r r' : R2} (ho : OpR X (compareOp op) r) (ho' : OpR X (compareOp op') r') (ha : PE X a ta) (hb : PE X b tb) (hc : PE X c tc)
    (hm : lastMarks [op, op'] [b, c] = false := by with_unfolding_all rfl) : PT X (.Compare a [op, op'] [b, c] pos) (tTest (tChain r r' ta tb tc)) := by
  intro pins s σ H Q I h
  refine isTrue_chain (thn (ha pins s σ H _ I h) fun v s1 ⟨x, H1, I1, r1, q1⟩ => test_link (thn (hb pins s1 σ H1 _ I1 q1) fun u s2 ⟨y, H2, I2, r2, q2⟩ =>
    thn (ho pins s2 σ H2 x y v u _ I2 r1 r2 q2) fun d s3 ⟨z, H3, I3, r3, k, e, q3⟩ => ?_)) hm
  subst e
  cases r3
  refine wpAny_truthy_bool ?_
  cases k with
  | false =>
    obtain ⟨k', e', q'⟩ := q3
    cases e'
    exact ite_ff ⟨H3, I3, q'⟩
  | true =>
    refine ite_tt (test_last (thn (hc pins s3 σ H3 _ I3 q3) fun w' s4 ⟨z', H4, I4, r4, q4⟩ => thn (ho' pins s4 σ H4 y z' u w' _ I4 r2 r4 q4) fun d' s5 ⟨z2, H5, I5, r5, k2, e2, q5⟩ => ?_))
    subst e2
    cases r5
    exact wpAny_truthy_bool ⟨H5, I5, q5⟩

/-! ### truth -/
theorem line63 : (sizeLine : Nat) < 2 ^ 63 := by rw [sizeLine_eq]; decide
/-! ### strs and bytes -/
theorem op_add_str : OpR X (binaryOp .Add) (fun x y H Q => ∃ i j, x = .str i ∧ y = .str j ∧ i.length + j.length ≤ sizeLine ∧ Q (.str (i ++ j)) H) := by
  intro pins s σ H x y v u Q I rx ry h
  obtain ⟨i, j, rfl, rfl, hz, q⟩ := h
  obtain ⟨t, rfl⟩ := rx
  obtain ⟨t', rfl⟩ := ry
  exact add_str (fun t' tk => ⟨.str (i ++ j), H, I.tok _, ⟨_, rfl⟩, q⟩) hz
/-! ### scalar builtins, by CallR -/
theorem vals1 {x : V} {us : List Value} (r : Vals [x] us) : ∃ u, us = [u] ∧ RelV x u := by
  cases r with
  | cons r1 r2 => cases r2; exact ⟨_, rfl, r1⟩
theorem vals2 {x y : V} {us : List Value} (r : Vals [x, y] us) : ∃ u w', us = [u, w'] ∧ RelV x u ∧ RelV y w' := by
  cases r with
  | cons r1 r2 =>
    cases r2 with
    | cons r3 r4 => cases r4; exact ⟨_, _, rfl, r1, r3⟩
end
end L2

namespace L2
open PySem PySem.Spec PyProof.Rows

/-! ### an instance, its attributes a map -/
structure ObjM (h : Heap) (x dx C : Addr) (mA : Str → Option Value) : Prop where
  obj : h.get? x = some (PySem.W.instObj C dx)
  ns : h.Ns1 dx mA
  ne : dx ≠ x

theorem lookIn_ns {h : Heap} {dx : Addr} {mA : Str → Option Value} (n : h.Ns1 dx mA) : ∃ od, h.get? dx = some od ∧ ∀ name, PySem.W.lookIn name od = some (mA name) := by
  obtain ⟨o, es, ep, ho, hd, hk, _, hm⟩ := n
  refine ⟨o, ho, fun name => ?_⟩
  have e := hm name
  unfold nsFind findBy at e
  rw [← Array.find?_toList] at e
  unfold PySem.W.lookIn
  rw [hd]
  dsimp only
  split
  · rename_i y q
    rw [q] at e
    exact congrArg some e
  · rename_i q
    rw [q] at e
    have a : es.toList.any (·.refKey) = false := by
      rw [List.any_eq_false]
      intro y hy
      obtain ⟨z, t, hkey⟩ := hk y (Array.mem_toList_iff.mp hy)
      simp [DictEntry.refKey, hkey]
    have a' : ¬ es.toList.any (·.refKey) = true := by rw [a]; exact Bool.false_ne_true
    rw [if_neg a']
    exact congrArg some e

theorem ObjM.look {h : Heap} {x dx C : Addr} {mA : Str → Option Value} (I : ObjM h x dx C mA) : ∃ od, PySem.W.InstAt h x (PySem.W.instObj C dx) C (some od) ∧ ∀ name, PySem.W.lookIn name od = some (mA name) :=
  let ⟨od, ho, hl⟩ := lookIn_ns I.ns
  ⟨od, ⟨I.obj, rfl, rfl, ho⟩, hl⟩

section
variable {prog : Program} {w : World} {A : Around} {E : Value → Shared → Prop} {s : Shared} {K : PySem.W.Frag} {x dx C f : Addr} {mA : Str → Option Value} {name : Str} {v : Value}

end

/-! ### the attributes as a list of pairs -/
theorem RelO.none_of {o : Option Value} (r : RelO none o) : o = none := by
  cases o with
  | none => rfl
  | some u => exact (show False from r).elim
section
variable {P : Program} {w : World} {H H' : Hp} {h h' : Heap} {a C dx : Addr} {fs fs' : List (Str × V)}
theorem ins_get (hok : HOk P w H h) (e : H a = some (.ins C dx fs)) : ∃ mA, ObjM h a dx C mA ∧ (∀ f, RelO (fs.lookup f) (mA f)) ∧ PySem.Within mA (fs.map (·.1)) ∧ fs.length ≤ 1000 ∧ H dx = some (.own a) := by
  obtain ⟨d, z, ne, ob, mA, n, r, q⟩ := (show ObjOk P w H h a (.ins C dx fs) from hok a _ e)
  exact ⟨mA, ⟨ob, n, ne⟩, r, q, z, d⟩
end

/-! ### what of the text a class must have -/
structure Cls (K : PySem.W.Frag) (C : Addr) : Prop where
  pg : PySem.W.plainGet K C Str.empty = true
  hd : PySem.W.hasDictIn K C = true
  po : PySem.W.plainOver K C = true
  sa : PySem.W.findIn K (.ref C) "__setattr__" = some (some (.builtin "object.__setattr__"))
theorem Cls.get {K : PySem.W.Frag} {C : Addr} (c : Cls K C) (f : Str) : PySem.W.plainGet K C f = true := c.pg
/-- a constant of the class -/
structure Con (K : PySem.W.Frag) (C : Addr) (f : Str) (v : V) (u : Value) : Prop where
  at_ : PySem.W.findIn K (.ref C) f = some (some u)
  rel : RelV v u
  get : PySem.W.specialIn K u "__get__" = some none
  cp : PySem.W.copiedNames.contains f = false
/-- a method: a plain def of the class or of one above it -/
structure Meth (K : PySem.W.Frag) (C : Addr) (m : Str) (f : Addr) : Prop where
  at_ : PySem.W.findIn K (.ref C) m = some (some (.ref f))
  fn : PySem.W.isFn K (.ref f) = true
  kp : PySem.W.keepIn K (.ref f) = true

section
variable {X : Cx} {pins : List (Addr × Obj)} {σ : St} {H : Hp} {s : Shared} {a C dx : Addr} {fs : List (Str × V)} {f : Str} {v : V} {A : Around} {E : Value → Shared → Prop}

/-- a new instance, tracked, without attributes -/
theorem Inv.made (I : Inv X pins σ H s) : Inv X pins σ (upd (upd H s.heap.objs.size (.own (s.heap.objs.size + 1))) (s.heap.objs.size + 1) (.ins C s.heap.objs.size []))
    { s with heap := (s.heap.push PySem.W.emptyDict).push (PySem.W.instObj C s.heap.objs.size) } := by
  have e1 : (s.heap.push PySem.W.emptyDict).get? s.heap.objs.size = some PySem.W.emptyDict := Heap.get?_push_size s.heap rfl
  have e2 : ((s.heap.push PySem.W.emptyDict).push (PySem.W.instObj C s.heap.objs.size)).get? (s.heap.objs.size + 1) = some (PySem.W.instObj C s.heap.objs.size) := by
    have := Heap.get?_push_size (s.heap.push PySem.W.emptyDict) (o := PySem.W.instObj C s.heap.objs.size) rfl
    rwa [Heap.size_push] at this
  have e3 : (s.heap.push PySem.W.emptyDict).Ns s.heap.objs.size (fun _ => none) := ⟨PySem.W.emptyDict, #[], _, e1, rfl, (fun e he => absurd he (by simp)), fun _ => rfl⟩
  have I1 := I.laid (a := s.heap.objs.size) (o := .own (s.heap.objs.size + 1)) (h' := s.heap.push PySem.W.emptyDict) (t' := s.toks) (fun b u q => Heap.get?_push_of_some _ q) (Nat.le_refl _) ⟨_, e1⟩
  refine I1.laid (a := s.heap.objs.size + 1) (o := .ins C s.heap.objs.size []) (t' := s.toks) (fun b u q => Heap.get?_push_of_some _ q) (Nat.le_of_eq (Heap.size_push _ _)) ?_
  have ne : s.heap.objs.size ≠ s.heap.objs.size + 1 := Nat.ne_of_lt (Nat.lt_succ_self _)
  refine ⟨by rw [upd_ne ne, upd_same], Nat.zero_le _, ne, e2, fun _ => none, (Heap.Ns1.of_empty e3).at fun o q => Heap.get?_push_of_some _ q, fun _ => True.intro, fun y hy => absurd rfl hy⟩

end

/-! ### readings and rules -/
section
variable {X : Cx} {o e value : Expr} {f : Str} {pos pos' tpos : Pos} {ta tv : TE}
end

/-! ### isinstance -/
section
variable {X : Cx} {pins : List (Addr × Obj)} {σ : St} {H : Hp} {s : Shared} {A : Around} {E : Value → Shared → Prop} {Q : Value → Shared → Prop} {c : Value} {b : Bool}
/-- the type of a value, as the fragment's deciders take it; for an instance its class -/
inductive TyOf (K : PySem.W.Frag) (H : Hp) : V → Value → Prop where
  | non : TyOf K H .non (.type "NoneType")
  | bl (x : Bool) : TyOf K H (.bl x) (.type "bool")
  | int (i : Int) : TyOf K H (.int i) (.type "int")
  | str (x : Str) : TyOf K H (.str x) (.type "str")
  | flt (x : UInt64) : TyOf K H (.flt x) (.type "float")
  | lst {a : Addr} {xs : List V} (e : H a = some (.lst xs)) : TyOf K H (.ref a) (.type "list")
  | frz {a : Addr} {o : Obj} {xs : List V} (e : H a = some (.frz o (.lst xs))) : TyOf K H (.ref a) (.type "list")
  | tup {a : Addr} {xs : List V} (e : H a = some (.tup xs)) : TyOf K H (.ref a) (.type "tuple")
  | dK {a : Addr} {kvs : List (Key × V)} (e : H a = some (.dK kvs)) : TyOf K H (.ref a) (.type "dict")
  | dT {a : Addr} {kvs : List (List Key × V)} (e : H a = some (.dT kvs)) : TyOf K H (.ref a) (.type "dict")
  | ins {a C dx : Addr} {fs : List (Str × V)} (e : H a = some (.ins C dx fs)) (cl : Cls K C) (ha : PySem.W.findIn K (.ref C) "__class__" = some (some (.builtin "object.__class__")))
      (hn : PySem.W.specialIn K (.builtin "object.__class__") "__get__" = some (some (.builtin "getset_descriptor.__get__"))) (htk : PySem.W.takesIn K (.builtin "object.__class__") = some true)
      (hm : PySem.W.mroIn K C (.type "object") = some true) : TyOf K H (.ref a) (.ref C)
/-- isinstance(x, c) for one class c, a built-in or an own one: kitOne's answer -/
theorem isinst_ok {x : V} {u t : Value} (I : Inv X pins σ H s) (rx : RelV x u) (ty : TyOf X.K H x t) (e : PySem.W.kitOne X.K t c = some b) (h : ∀ tk, Q (.bool b) { s with toks := tk }) :
    wpAny (model X.prog X.w) A (call (.builtin "isinstance") [u, c]) Q E s := by
  cases ty with
  | non => cases (show u = Value.none from rx); exact PySem.W.kia_one PySem.W.kitx_none I.kIn True.intro e (fun z => nomatch z) h
  | bl y => cases (show u = Value.bool y from rx); exact PySem.W.kia_one PySem.W.kitx_bool I.kIn True.intro e (fun z => nomatch z) h
  | int i => obtain ⟨t, q⟩ := (show ∃ t, u = Value.int i t from rx); cases q; exact PySem.W.kia_one PySem.W.kitx_int I.kIn True.intro e (fun z => nomatch z) h
  | str y => obtain ⟨t, q⟩ := (show ∃ t, u = Value.str y t from rx); cases q; exact PySem.W.kia_one PySem.W.kitx_str I.kIn True.intro e (fun z => nomatch z) h
  | flt y => obtain ⟨t, q⟩ := (show ∃ t, u = Value.float y t from rx); cases q; exact PySem.W.kia_one PySem.W.kitx_float I.kIn True.intro e (fun z => nomatch z) h
  | @lst a xs ea =>
    cases (show u = Value.ref a from rx)
    obtain ⟨_, _, n, _, h1⟩ := (show ObjOk X.prog X.w H s.heap a (.lst xs) from I.hok a _ ea)
    exact PySem.W.kia_one PySem.W.kitx_list I.kIn ⟨_, h1, rfl⟩ e (fun z => nomatch z) h
  | @frz a ob xs ea =>
    cases (show u = Value.ref a from rx)
    obtain ⟨_, _, _, n, _, h1⟩ := (show ObjOk X.prog X.w H s.heap a (.frz ob (.lst xs)) from I.hok a _ ea)
    exact PySem.W.kia_one PySem.W.kitx_list I.kIn ⟨_, h1, rfl⟩ e (fun z => nomatch z) h
  | @tup a xs ea =>
    cases (show u = Value.ref a from rx)
    obtain ⟨_, _, _, p⟩ := (show ObjOk X.prog X.w H s.heap a (.tup xs) from I.hok a _ ea)
    obtain ⟨o, h1, h2, _⟩ := p
    exact PySem.W.kia_one PySem.W.kitx_tuple I.kIn ⟨o, h1, h2⟩ e (fun z => nomatch z) h
  | @dK a kvs ea =>
    cases (show u = Value.ref a from rx)
    obtain ⟨_, _, vs, _, p⟩ := (show ObjOk X.prog X.w H s.heap a (.dK kvs) from I.hok a _ ea)
    obtain ⟨o, es, ep, h1, h2, _⟩ := p
    exact PySem.W.kia_one PySem.W.kitx_dict I.kIn ⟨o, h1, h2.1⟩ e (fun z => nomatch z) h
  | @dT a kvs ea =>
    cases (show u = Value.ref a from rx)
    obtain ⟨_, _, xs, _, o, es, ep, h1, h2, _⟩ := (show ObjOk X.prog X.w H s.heap a (.dT kvs) from I.hok a _ ea)
    exact PySem.W.kia_one PySem.W.kitx_dict I.kIn ⟨o, h1, h2.1⟩ e (fun z => nomatch z) h
  | @ins a C dx fs ea cl ha hn htk hm =>
    cases (show u = Value.ref a from rx)
    obtain ⟨mA, O, _⟩ := ins_get I.hok ea
    obtain ⟨od, J, _⟩ := O.look
    exact PySem.W.kia_one (PySem.W.kitx_own (cl.get _) cl.hd ha hn htk hm) I.kIn J e (fun z => nomatch z) h
end
end L2

namespace L2
open PySem PySem.Spec PyProof.Rows

/-! ### room -/
structure Room (k : Nat) (A : Around) : Prop where
  hd : A.handled = none
  dp : A.depth + 3 * k + 5 < recursionLimit
  un : A.units + 16 * k + 200 < cLine
theorem Room.mono {j k : Nat} {A : Around} (r : Room k A) (h : j ≤ k) : Room j A := ⟨r.hd, by have := r.dp; omega, by have := r.un; omega⟩
theorem Room.deeper {k : Nat} {A : Around} (r : Room (k + 1) A) (env : Env) : Room k (A.deeper env) :=
  ⟨r.hd, by have := r.dp; show A.depth + 1 + 3 * k + 5 < _; omega, by have := r.un; show A.units + 3 + 16 * k + 200 < _; omega⟩
theorem Room.in1 {k : Nat} {A : Around} (r : Room (k + 1) A) : Room k A.in1 :=
  ⟨r.hd, by have := r.dp; show A.depth + 3 * k + 5 < _; omega, by have := r.un; show A.units + 1 + 16 * k + 200 < _; omega⟩
theorem make_depth {A : Around} {C : Addr} {us : List Value} {kw : List (Str × Value)} : (A.under (.builtin "type.__call__" ⟨.ref C :: us, kw⟩)).depth = A.depth + 1 := by
  first | rfl | simp [Around.under, Code.weight, Code.isCreation, Code.isGuard, Code.isCaller, Code.frames, Code.isFrame, guardIds]
theorem make_units {A : Around} {C : Addr} {us : List Value} {kw : List (Str × Value)} : (A.under (.builtin "type.__call__" ⟨.ref C :: us, kw⟩)).units = A.units + 1 := by
  first | rfl | simp [Around.under, Code.cUnits, Code.frames, Code.isFrame]
theorem Room.make {k : Nat} {A : Around} (r : Room (k + 1) A) (C : Addr) (us : List Value) (kw : List (Str × Value)) : Room k (A.under (.builtin "type.__call__" ⟨.ref C :: us, kw⟩)) :=
  ⟨r.hd, by have := r.dp; rw [make_depth]; omega, by have := r.un; rw [make_units]; omega⟩
theorem Room.depth {k : Nat} {A : Around} (r : Room k A) : A.depth < recursionLimit := by have := r.dp; omega
theorem Room.units {k : Nat} {A : Around} (r : Room k A) : A.units + 64 < cLine := by have := r.un; omega
theorem Room.units0 {k : Nat} {A : Around} (r : Room k A) : A.units < cLine := by have := r.un; omega

/-! ### argument lists and displays -/
def tNil : TA := fun _ H Q => Q [] H
def tCons (ta : TE) (tr : TA) : TA := fun σ H Q => ta σ H fun x H1 => tr σ H1 fun xs H2 => Q (x :: xs) H2
section
variable {X : Cx} {e : Expr} {es : List Expr} {te : TE} {t : TA} {pos : Pos}
theorem pa_nil : PA X [] tNil := fun _ _ _ _ H Q I h => Calls.spliced_nil ⟨[], H, I, .nil, h⟩
theorem pa_cons (ha : PE X e te) (hr : PA X es t) (hs : starEach (e :: es) X.env = (false, eval e X.env) :: starEach es X.env := by rfl) : PA X (e :: es) (tCons te t) := by
  intro pos pins s σ H Q I h
  rw [hs]
  show wpAny _ _ (spliced ((false, eval e X.env) :: backTo pos (starEach es X.env))) _ _ s
  refine Calls.spliced_cons (thn (ha pins s σ H _ I h) fun u s1 ⟨x, H1, I1, r1, q1⟩ => ?_)
  exact thn (hr pos pins s1 σ H1 _ I1 q1) fun us s2 ⟨xs, H2, I2, r2, q2⟩ => ⟨x :: xs, H2, I2, .cons r1 r2, q2⟩

/-- a tuple, a list of written items -/
def tTup (t : TA) : TE := fun σ H Q => t σ H fun xs H1 => xs.length ≤ sizeLine ∧ ∀ p, H1 p = none → Q (.ref p) (upd H1 p (.tup xs))
def tLst (t : TA) : TE := fun σ H Q => t σ H fun xs H1 => xs.length ≤ sizeLine ∧ ∀ p, H1 p = none → Q (.ref p) (upd H1 p (.lst xs))
theorem pe_tup {x1} (h : PA X es t) : PE X (.Tuple es x1 pos) (tTup t) := by
  intro pins s σ H Q I hq
  refine wpAny_Tuple_spliced (thn (h pos pins s σ H _ I hq) fun us s1 ⟨xs, H1, I1, r, z, q⟩ => ⟨by rw [← r.length]; exact z, ?_⟩)
  have hf : H1 s1.heap.objs.size = none := I1.hok.fresh (Nat.le_refl _)
  refine ⟨.ref s1.heap.objs.size, upd H1 s1.heap.objs.size (.tup xs), I1.laid (t' := s1.toks) (fun b u e => Heap.get?_push_of_some _ e) (Nat.le_refl _) ?_, rfl, q _ hf⟩
  exact ⟨z, us, r, ⟨_, Heap.get?_push_size _ rfl, rfl, _, rfl⟩⟩
theorem pe_lst (h : PA X es t) : PE X (.List es pos) (tLst t) := by
  intro pins s σ H Q I hq
  refine wpAny_List_spliced (thn (h pos pins s σ H _ I hq) fun us s1 ⟨xs, H1, I1, r, z, q⟩ => ⟨by rw [← r.length]; exact z, ?_⟩)
  have hf : H1 s1.heap.objs.size = none := I1.hok.fresh (Nat.le_refl _)
  refine ⟨.ref s1.heap.objs.size, upd H1 s1.heap.objs.size (.lst xs), I1.laid (t' := s1.toks) (fun b u e => Heap.get?_push_of_some _ e) (Nat.le_refl _) ?_, rfl, q _ hf⟩
  exact ⟨z, us, 0, r, Heap.get?_push_size _ rfl⟩
end

/-! ### what a def promises -/
/-- a def's promise: the bound arguments in the parameters' order, the heap, the wanted end, the wanted exception -/
abbrev Sp := List V → Hp → VK → XK → Prop
/-- how an exception lies behind a call (file 08 gives it): the callers' frames, abstract heap and state ahead of the call, the wish, the exception, the state -/
abbrev CXT := List Env → Hp → Shared → XK → Value → Shared → Prop

/-- the state at a call -/
structure Env0 (P : Program) (w : World) (K : PySem.W.Frag) (mg : Str → Option Value) (base : Heap) (A : Around) (outer : List Env) (s : Shared) (H : Hp) : Prop where
  frames : A.frames = some outer
  mod : Mod K mg base
  bs : ∀ b o, base.get? b = some o → s.heap.get? b = some o ∧ H b = none
  bsz : base.objs.size ≤ s.heap.objs.size
  funs : s.heap.FunFrames base outer
  frf : ∀ b ∈ frs outer, H b = none
  hok : HOk P w H s.heap
  bare : AllBare s.gens
/-- a call's end -/
def CE (outer : List Env) (P : Program) (w : World) (H : Hp) (s : Shared) (Q : VK) (u : Value) (s' : Shared) : Prop :=
  ∃ v H', s'.os = s.os ∧ AllBare s'.gens ∧ Un (frs outer) [] H H' s.heap s'.heap ∧ HOk P w H' s'.heap ∧ RelV v u ∧ Q v H'
def CR (CX : CXT) (outer : List Env) (P : Program) (w : World) (H : Hp) (s : Shared) (Q : VK) (E : XK) (r : Result) (s' : Shared) : Prop :=
  match r with
  | .ok (.ret u) => CE outer P w H s Q u s'
  | .ok _ => False
  | .error e => CX outer H s E e s'
structure FnOk (P : Program) (w : World) (K : PySem.W.Frag) (mg : Str → Option Value) (base : Heap) (CX : CXT) (k : Nat) (f : Addr) (fd : FuncData) (ps : List Str) (sp : Sp) : Prop where
  len : ∀ vs H Q E, sp vs H Q E → vs.length = ps.length
  run : ∀ (A : Around) (outer : List Env) (s : Shared) (H : Hp) (args : Args) (us : List Value) (vs : List V) (Q : VK) (E : XK), Room k A → Env0 P w K mg base A outer s H → BindsTo s fd args (ps.zip us) → Vals vs us → sp vs H Q E →
    codeAny (model P w) A (.call (.ref f) args) (CR CX outer P w H s Q E) s
theorem FnOk.mono {P : Program} {w : World} {K : PySem.W.Frag} {mg : Str → Option Value} {base : Heap} {CX : CXT} {j k : Nat} {f : Addr} {fd : FuncData} {ps : List Str} {sp : Sp} (F : FnOk P w K mg base CX j f fd ps sp) (h : j ≤ k) :
    FnOk P w K mg base CX k f fd ps sp := ⟨F.len, fun A outer s H args us vs Q E hr => F.run A outer s H args us vs Q E (hr.mono h)⟩
theorem Env0.make {P : Program} {w : World} {K : PySem.W.Frag} {mg : Str → Option Value} {base : Heap} {A : Around} {outer : List Env} {s : Shared} {H : Hp} (e : Env0 P w K mg base A outer s H) (C : Addr) (us : List Value) (kw : List (Str × Value)) :
    Env0 P w K mg base (A.under (.builtin "type.__call__" ⟨.ref C :: us, kw⟩)) outer s H := ⟨by first | exact e.frames | (simpa [Around.under, Code.envs, Code.isFrame, pushEnvs] using e.frames), e.mod, e.bs, e.bsz, e.funs, e.frf, e.hok, e.bare⟩
theorem Env0.in1 {P : Program} {w : World} {K : PySem.W.Frag} {mg : Str → Option Value} {base : Heap} {A : Around} {outer : List Env} {s : Shared} {H : Hp} (e : Env0 P w K mg base A outer s H) :
    Env0 P w K mg base A.in1 outer s H := ⟨e.frames, e.mod, e.bs, e.bsz, e.funs, e.frf, e.hok, e.bare⟩

section
variable {X : Cx} {pins : List (Addr × Obj)} {σ : St} {H : Hp} {s s' : Shared}
/-- from a body: what a callee wants -/
theorem Inv.env0 (I : Inv X pins σ H s) : Env0 X.prog X.w X.K X.mg X.base X.A X.stack s H :=
  ⟨I.ok.frames, I.ok.mod, I.bs, Nat.le_trans I.ok.bsz I.sz, I.stack, I.stkFree, I.hok, I.bare⟩
/-- behind a call -/
theorem Inv.after {Q : VK} {u : Value} (I : Inv X pins σ H s) (h : CE X.stack X.prog X.w H s Q u s') : EP X pins σ Q u s' := by
  obtain ⟨v, H', os, bare, un, hok, r, q⟩ := h
  obtain ⟨hh, g, d, t, os'⟩ := s'
  obtain rfl : os' = s.os := os
  exact ⟨v, H', I.call (h' := hh) (g' := g) (d' := d) (t' := t) (ch := []) un hok bare (fun b z => absurd z (by simp)), r, q⟩
end

/-! ### calls -/
/-- f(..): the written arguments, then the defaults dvs; E: what is wanted of an exception -/
def tCall (sp : Sp) (dvs : List V) (E : XK) (t : TA) : TE := fun σ H Q => t σ H fun vs H1 => sp (vs ++ dvs) H1 Q E
/-- how the parameters are bound: us the positional arguments, kw the keywords' values by name, ds the defaults that fill up -/
def Binds (K : PySem.W.Frag) (fd : FuncData) (ps : List Str) (ds : List Value) : Prop :=
  ∀ (s : Shared) (us : List Value), K.In s.heap → (us ++ ds).length = ps.length → BindsTo s fd ⟨us, []⟩ (ps.zip (us ++ ds))
/-- every parameter is given -/
theorem Binds.all {K : PySem.W.Frag} {fd : FuncData} {ps : List Str} (h : ∀ us : List Value, us.length = ps.length → bindArgs fd ⟨us, []⟩ = pure (ps.zip us)) : Binds K fd ps [] := fun s us _ hl => by
  rw [List.append_nil] at hl ⊢
  exact .of_eq (h us hl)

/-- an exception of a callee reaches what this body wants of exceptions -/
def Passes (CX : CXT) (X : Cx) (E : XK) : Prop := ∀ (pins : List (Addr × Obj)) (σ : St) (H : Hp) (s : Shared) (e : Value) (s' : Shared), Inv X pins σ H s → CX X.stack H s E e s' → X.xe e s'

section
variable {X : Cx} {CX : CXT} {k : Nat} {f C : Addr} {fd : FuncData} {ps : List Str} {sp : Sp} {dvs : List V} {ds : List Value} {E : XK} {x m : Str} {p pos apos : Pos} {e o : Expr} {es : List Expr} {ta : TE} {t : TA}

/-- the callee runs -/
theorem run_fn {pins : List (Addr × Obj)} {σ : St} {H : Hp} {s : Shared} {Q : VK} {us : List Value} {vs : List V} (F : FnOk X.prog X.w X.K X.mg X.base CX k f fd ps sp) (hr : Room k X.A) (hb : Binds X.K fd ps ds) (hd : Vals dvs ds) (hx : Passes CX X E)
    (I : Inv X pins σ H s) (r : Vals vs us) (h : sp (vs ++ dvs) H Q E) : wpAny (model X.prog X.w) X.A (call (.ref f) us) (EP X pins σ Q) X.xe s := by
  have r2 : Vals (vs ++ dvs) (us ++ ds) := r.append hd
  have hl : (us ++ ds).length = ps.length := by rw [← r2.length]; exact F.len _ _ _ _ h
  refine wpAny_call (codeAny_mono (F.run X.A X.stack s H ⟨us, []⟩ (us ++ ds) (vs ++ dvs) Q E hr I.env0 (hb s us I.kIn hl) r2 h) fun r s' hq => ?_)
  cases r with
  | error e => exact hx pins σ H s e s' I hq
  | ok fl =>
    cases fl with
    | ret u => exact I.after hq
    | next => exact False.elim hq
    | brk => exact False.elim hq
    | cont => exact False.elim hq

theorem pe_call (F : FnOk X.prog X.w X.K X.mg X.base CX k f fd ps sp) (hr : Room k X.A) (hg : Gl X x) (hm : X.mg x = some (.ref f)) (hk : PySem.W.keepIn X.K (.ref f) = true) (hb : Binds X.K fd ps ds) (hd : Vals dvs ds) (hx : Passes CX X E)
    (ha : PA X (e :: es) t) (hdb : (x == ("__debug__" : Str)) = false := by decide) (he : starEach (e :: es) X.env = (false, eval e X.env) :: starEach es X.env := by rfl) (hpl : (backTo pos (starEach es X.env)).any (·.1) = false := by rfl) :
    PE X (.Call (.Name x p) (e :: es) [] pos) (tCall sp dvs E t) := by
  intro pins s σ H Q I h
  refine wpAny_Call_Name_kw (ld_glob I hg hm ?_ hdb)
  refine PySem.W.callWith_K (h₀ := X.base) I.ok.mod.kin hk (thn (ha pos pins s σ H _ I h) fun us s1 ⟨vs, H1, I1, r, q⟩ => ⟨I1.kIn, ?_⟩) he hpl
  exact run_fn F hr hb hd hx I1 r q
/-- what a class must have to be made -/
structure Mk (K : PySem.W.Frag) (C f : Addr) : Prop where
  makes : PySem.W.makesIn K C = true
  init : PySem.W.findIn K (.ref C) "__init__" = some (some (.ref f))
  fn : PySem.W.isFn K (.ref f) = true
  kp : PySem.W.keepIn K (.ref C) = true

end

/-! ### keywords -/
section
variable {X : Cx} {CX : CXT} {k : Nat} {f C : Addr} {fd : FuncData} {ps ks : List Str} {sp : Sp} {E : XK} {x m : Str} {p pos apos kpos : Pos} {e o : Expr} {es : List Expr} {kws : List Keyword} {te ta : TE} {t tk : TA} {nm : Option Str}
/-- how a call with keywords binds: g puts the positional values us and the keywords' values ws (names ks) in the parameters' order, defaults among them -/
structure KBinds (K : PySem.W.Frag) (fd : FuncData) (ps ks : List Str) (g : List Value → List Value → List Value) (gV : List V → List V → List V) : Prop where
  to : ∀ (s : Shared) (us ws : List Value), K.In s.heap → (g us ws).length = ps.length → BindsTo s fd ⟨us, ks.zip ws⟩ (ps.zip (g us ws))
  rel : ∀ {vs : List V} {us : List Value} {zs : List V} {ws : List Value}, Vals vs us → Vals zs ws → Vals (gV vs zs) (g us ws)
variable {g : List Value → List Value → List Value} {gV : List V → List V → List V}
end

/-! ### a def's body keeps its promise -/
/-- names: the parameters first -/
structure FnScope (N P : List Str) (sc : Scope) : Prop where
  kind : sc.kind = .function
  co : sc.isCoroutine = false
  gen : sc.isGenerator = false
  nd : N.Nodup
  pre : N.take P.length = P
  par : ∀ x ∈ P, sc.names.lookup x = some .local ∨ sc.names.lookup x = some .cell
  nofree : ∀ y ∈ sc.names, y.2 ≠ .free

theorem bindL_out {kindOf : Str → Option NameKind} {x : Str} : ∀ {binds : List (Str × Value)} {m : Str → Option Value}, (∀ v, (x, v) ∉ binds) → bindL kindOf binds m x = m x
  | [], _, _ => rfl
  | (n, v) :: r, m, h => by
    unfold bindL
    rw [bindL_out fun w hw => h w (List.mem_cons_of_mem _ hw)]
    split
    · have : x ≠ n := by rintro rfl; exact h v List.mem_cons_self
      simp [this]
    · rfl
theorem bindC_out {kindOf : Str → Option NameKind} {x : Str} : ∀ {binds : List (Str × Value)} {m : Str → Option Value}, (∀ v, (x, v) ∉ binds) → bindC kindOf binds m x = m x
  | [], _, _ => rfl
  | (n, v) :: r, m, h => by
    unfold bindC
    rw [bindC_out fun w hw => h w (List.mem_cons_of_mem _ hw)]
    split
    · rfl
    · have : x ≠ n := by rintro rfl; exact h v List.mem_cons_self
      simp [this]
theorem bindL_get {kindOf : Str → Option NameKind} {x : Str} {v : Value} : ∀ {P : List Str} {vs : List Value} {i : Nat} {m : Str → Option Value}, P.Nodup → P[i]? = some x → vs[i]? = some v → kindOf x = some .local →
    bindL kindOf (P.zip vs) m x = some v
  | [], _, _, _, _, h, _, _ => by simp at h
  | _ :: _, [], _, _, _, _, h, _ => by simp at h
  | p :: P, w :: vs, 0, m, nd, h1, h2, hk => by
    simp at h1 h2; subst h1; subst h2
    show bindL kindOf ((p, w) :: P.zip vs) m p = _
    unfold bindL
    rw [bindL_out fun v hv => (List.nodup_cons.mp nd).1 (List.of_mem_zip hv).1, if_pos hk]
    simp
  | p :: P, w :: vs, i + 1, m, nd, h1, h2, hk => by
    show bindL kindOf ((p, w) :: P.zip vs) m x = _
    unfold bindL
    exact bindL_get (i := i) (List.nodup_cons.mp nd).2 (by simpa using h1) (by simpa using h2) hk
theorem bindC_get {kindOf : Str → Option NameKind} {x : Str} {v : Value} : ∀ {P : List Str} {vs : List Value} {i : Nat} {m : Str → Option Value}, P.Nodup → P[i]? = some x → vs[i]? = some v → kindOf x ≠ some .local →
    bindC kindOf (P.zip vs) m x = some v
  | [], _, _, _, _, h, _, _ => by simp at h
  | _ :: _, [], _, _, _, _, h, _ => by simp at h
  | p :: P, w :: vs, 0, m, nd, h1, h2, hk => by
    simp at h1 h2; subst h1; subst h2
    show bindC kindOf ((p, w) :: P.zip vs) m p = _
    unfold bindC
    rw [bindC_out fun v hv => (List.nodup_cons.mp nd).1 (List.of_mem_zip hv).1, if_neg hk]
    simp
  | p :: P, w :: vs, i + 1, m, nd, h1, h2, hk => by
    show bindC kindOf ((p, w) :: P.zip vs) m x = _
    unfold bindC
    exact bindC_get (i := i) (List.nodup_cons.mp nd).2 (by simpa using h1) (by simpa using h2) hk

/-- the names' values at the entry -/
def start (N : List Str) (vs : List V) : St := vs.map some ++ List.replicate (N.length - vs.length) none

/-- the context of a def's body, at its entry; an exception leaves the frame, then lies as CX says -/
def cxOf (CX : CXT) (P : Program) (w : World) (K : PySem.W.Frag) (mg : Str → Option Value) (base : Heap) (N : List Str) (qual : Str) (scope : Scope) (f : Addr) (cd : Value) (A : Around) (outer : List Env) (s : Shared) (H : Hp) (E : XK) : Cx where
  prog := P
  w := w
  K := K
  mg := mg
  base := base
  A := A.deeper (envOfC qual scope s.heap.objs.size f cd)
  N := N
  s₀ := s
  H₀ := H
  env := envOfC qual scope s.heap.objs.size f cd
  outer := outer
  stack := envOfC qual scope s.heap.objs.size f cd :: outer
  ex := []
  calm := true
  fn := fun _ => true
  pn := []
  xe := fun e s' => wpAny (model P w) (A.deeper (envOfC qual scope s.heap.objs.size f cd)) (leaving (envOfC qual scope s.heap.objs.size f cd) e) (fun _ s'' => CX outer H s E e s'') (fun e' s'' => CX outer H s E e' s'') s'

theorem cell_has {sc : Scope} {n : Nat} {x : Str} (h : sc.names.lookup x = some .cell) : ∃ c, (cellsFrom n sc.names []).lookup x = some c := by
  have q := PySem.W.cellsFrom_some sc.names n [] (.inl h)
  exact Option.isSome_iff_exists.mp q

theorem inv_start {CX : CXT} {P : Program} {w : World} {K : PySem.W.Frag} {mg : Str → Option Value} {base : Heap} {N ps : List Str} {qual : Str} {scope : Scope} {f : Addr} {cd : Value} {A : Around} {outer : List Env} {s s1 : Shared} {H : Hp} {E : XK} {us : List Value} {vs : List V}
    (S : FnScope N ps scope) (hd : A.handled = none) (e0 : Env0 P w K mg base A outer s H) (hl : vs.length = ps.length) (r : Vals vs us)
    (x : InCallC s s.heap.objs.size (bindL (envOfC qual scope s.heap.objs.size f cd).kindOf (ps.zip us) fun _ => none) (cellsFrom (s.heap.objs.size + 1) scope.names []) (bindC (envOfC qual scope s.heap.objs.size f cd).kindOf (ps.zip us) fun _ => none) s1) :
    Inv (cxOf CX P w K mg base N qual scope f cd A outer s H E) [] (start N vs) H s1 := by
  have hpl : ps.length ≤ N.length := by have := congrArg List.length S.pre; rw [List.length_take] at this; omega
  obtain ⟨h1, tk, rfl, hk⟩ := x.done
  have noA : ∀ b : Addr, b ∉ (cxOf CX P w K mg base N qual scope f cd A outer s H E).ex := fun b z => absurd (show b ∈ ([] : List Addr) from z) (by simp)
  refine ⟨⟨e0.mod, S.kind, rfl, rfl, Nat.le_refl _, fun y z c h1 h2 => ?_, fun y hy => ?_, fun y c _ h => ?_, fun _ => hd, Around.frames_deeper e0.frames, .inr ⟨rfl, rfl⟩, fun b z => absurd z (noA b), e0.bs, e0.bsz, fun b _ _ => noA b, fun b z => absurd z (noA b), e0.funs, e0.frf⟩,
    rfl, e0.bare, Un.kept hk, ⟨_, x.toInCall.ns, fun i y v h1 h2 h3 => ?_⟩, fun y c h => ⟨_, x.cell y c h⟩, e0.hok.fresh (Nat.le_refl _), fun y c h => ?_, fun p hp => absurd (show p ∈ ([] : List (Addr × Obj)) from hp) (by simp), e0.hok.kept hk, ?_⟩
  · exact name_of_addr x.apart (PySem.mem_of_lookup h1) (PySem.mem_of_lookup h2)
  · have hy : scope.names.lookup y = some .cell ∨ scope.names.lookup y = some .free := hy
    rcases hy with hy | hy
    · exact cell_has hy
    · exact absurd rfl (S.nofree _ (PySem.mem_of_lookup hy))
  · exact Nat.le_of_lt (x.above y c (PySem.mem_of_lookup h))
  · have hi : i < vs.length := by
      unfold start at h2
      by_cases hi : i < vs.length
      · exact hi
      · rw [List.getElem?_append_right (by simpa using hi)] at h2
        rw [List.getElem?_replicate] at h2
        split at h2 <;> cases h2
    have ha : vs[i]? = some v := by
      unfold start at h2
      rw [List.getElem?_append_left (by simpa using hi), List.getElem?_map] at h2
      cases e : vs[i]? with
      | none => rw [e] at h2; cases h2
      | some a => rw [e] at h2; cases h2; rfl
    obtain ⟨u, hu, rv⟩ := r.get ha
    have hp : ps[i]? = some y := by
      rw [← S.pre, List.getElem?_take_of_lt (by omega)]; exact h1
    have ndP : ps.Nodup := by rw [← S.pre]; exact S.nd.sublist (List.take_sublist _ _)
    refine ⟨u, rv, ?_⟩
    rcases S.par y (List.mem_of_getElem? hp) with k | k
    · exact .inl ⟨k, bindL_get ndP hp hu k⟩
    · obtain ⟨c, e⟩ := cell_has (n := s.heap.objs.size + 1) k
      refine .inr ⟨.inl k, c, e, ?_⟩
      have q := x.cell y c e
      rw [bindC_get ndP hp hu (by show scope.names.lookup y ≠ _; rw [k]; decide)] at q
      exact q
  · exact e0.hok.fresh (Nat.le_of_lt (x.above y c (PySem.mem_of_lookup h)))
  · unfold start
    show _ = N.length
    rw [List.length_append, List.length_map, List.length_replicate]
    omega

/-- THE RULE: a def (or a method) of the text, by its body. The body's reading t is chosen for each entry; it is run at the parameters' values -/
theorem fn_of {CX : CXT} {P : Program} {w : World} {K : PySem.W.Frag} {mg : Str → Option Value} {base : Heap} {k : Nat} {f : Addr} {name qual : Str} {params : Arguments} {body : List Stmt} {scope : Scope} {dV kV doc pm cdv ct oc : Value} {an od : Option Addr}
    {osl : Array (Option Value)} {N ps : List Str} {sp : Sp} (lk : K.lookup f = some ⟨oc, od, .func (PySem.W.fnOf name qual params body scope dV kV doc pm an cdv ct), osl⟩) (hcd : PySem.W.codeIn K cdv qual = true) (S : FnScope N ps scope)
    (len : ∀ vs H Q E, sp vs H Q E → vs.length = ps.length)
    (hbody : ∀ (A : Around) (outer : List Env) (s : Shared) (H : Hp) (vs : List V) (Q : VK) (E : XK), Room k (A.deeper (envOfC qual scope s.heap.objs.size f cdv)) → sp vs H Q E →
      ∃ t, PSs (cxOf CX P w K mg base N qual scope f cdv A outer s H E) body t ∧ t { nx := fun _ H' => Q .non H', rt := Q } (start N vs) H) :
    FnOk P w K mg base CX (k + 1) f (PySem.W.fnOf name qual params body scope dV kV doc pm an cdv ct) ps sp := by
  refine ⟨len, fun A outer s H args us vs Q E hr e0 hb r hsp => ?_⟩
  have hl := len _ _ _ _ hsp
  have KX : K.In s.heap := e0.mod.kin.keeps fun b o e => (e0.bs b o e).1
  have lim : s.heap.NoLimit := e0.mod.nolimit.keeps fun b o e => (e0.bs b o e).1
  have hkind : ∀ y ∈ ps.zip us, scope.names.lookup y.1 = some .local ∨ (scope.names.lookup y.1 = some .cell ∧ ((cellsFrom (s.heap.objs.size + 1) scope.names []).lookup y.1).isSome = true) := fun ⟨n, v⟩ hy => by
    rcases S.par n (List.of_mem_zip hy).1 with q | q
    · exact .inl q
    · exact .inr ⟨q, PySem.W.cellsFrom_some _ _ _ (.inl q)⟩
  refine codeAny_call_function hr.depth (KX _ _ lk) rfl S.co S.gen rfl (PySem.W.codeRec_of KX hcd) (hb _ _ _ _ ?_)
  refine wpAny_newFunctionEnv_cells S.kind hkind fun env he s1 x => ?_
  subst he
  refine ⟨lim.keeps x.toInCall.keep, codeAny_func ?_⟩
  obtain ⟨t, ht, hq⟩ := hbody A outer s H vs Q E (hr.deeper _) hsp
  have I : Inv (cxOf CX P w K mg base N qual scope f cdv A outer s H E) [] (start N vs) H s1 := inv_start S hr.hd e0 hl r x
  refine wpAny_mono (ht [] s1 (start N vs) H _ I hq) (fun fl s' hs => ?_) fun e s' hs => hs
  have fin : ∀ {σ' : St} {H' : Hp} {v : V} {u : Value}, Inv (cxOf CX P w K mg base N qual scope f cdv A outer s H E) [] σ' H' s' → RelV v u → Q v H' → CE outer P w H s Q u s' :=
    fun {σ' H' v u} J rv q => ⟨v, H', J.os, J.bare, J.base, J.hok, rv, q⟩
  cases fl with
  | ret u =>
    obtain ⟨v, σ', H', J, rv, q⟩ := hs
    exact fin J rv q
  | next =>
    obtain ⟨σ', H', J, q⟩ := hs
    exact fin (v := V.non) (u := Value.none) J rfl q
  | brk =>
    obtain ⟨_, _, _, q⟩ := hs
    exact False.elim q
  | cont =>
    obtain ⟨_, _, _, q⟩ := hs
    exact False.elim q
end L2

namespace L2
open PySem PySem.Spec PyProof.Rows
section
variable {X : Cx} {x : Str} {p pos : Pos} {e : Expr} {es : List Expr} {t : TA} {id T : String} {r : List V → Hp → VK → Prop}

def tCB (r : List V → Hp → VK → Prop) (t : TA) : TE := fun σ H Q => t σ H fun vs H1 => r vs H1 Q
/-- f(e, ..), f a built-in function -/
theorem pe_callB (hc : CallR X (.builtin id) r) (hg : Gl X x) (hm : X.mg x = none) (hv : bootBuiltins x = some (.builtin id)) (ha : PA X (e :: es) t) (hn : x ≠ "__name__" := by decide) (hdb : (x == ("__debug__" : Str)) = false := by decide)
    (he : starEach (e :: es) X.env = (false, eval e X.env) :: starEach es X.env := by rfl) (hpl : (backTo pos (starEach es X.env)).any (·.1) = false := by rfl) : PE X (.Call (.Name x p) (e :: es) [] pos) (tCB r t) := by
  intro pins s σ H Q I h
  refine wpAny_Call_Name_kw (ld_blt I hg hm hv ?_ hn hdb)
  exact PyProof.Rows.callWith_builtin1 (thn (ha pos pins s σ H _ I h) fun us s1 ⟨vs, H1, I1, r1, q1⟩ => hc pins s1 σ H1 vs us Q I1 r1 q1) he hpl
/-- T(e, ..), T a built-in type -/
theorem pe_callTy (hc : CallR X (.type T) r) (hg : Gl X x) (hm : X.mg x = none) (hv : bootBuiltins x = some (.type T)) (ha : PA X (e :: es) t) (hn : x ≠ "__name__" := by decide) (hdb : (x == ("__debug__" : Str)) = false := by decide)
    (he : starEach (e :: es) X.env = (false, eval e X.env) :: starEach es X.env := by rfl) (hpl : (backTo pos (starEach es X.env)).any (·.1) = false := by rfl) : PE X (.Call (.Name x p) (e :: es) [] pos) (tCB r t) := by
  intro pins s σ H Q I h
  refine wpAny_Call_Name_kw (ld_blt I hg hm hv ?_ hn hdb)
  exact PyProof.Rows.callWith_type1 (thn (ha pos pins s σ H _ I h) fun us s1 ⟨vs, H1, I1, r1, q1⟩ => hc pins s1 σ H1 vs us Q I1 r1 q1) he hpl
end
end L2

namespace L2
open PySem PySem.Spec PyProof.Rows

/-! ### lists of pairs as tables -/
section
variable {κ : Type} [DecidableEq κ]
def valV (kvs : List (κ × V)) (k : κ) : Option V := (kvs.find? fun kv => decide (kv.1 = k)).map (·.2)
/-- in its place, or at the end -/
def putK (kvs : List (κ × V)) (k : κ) (v : V) : List (κ × V) :=
  if (kvs.any fun kv => decide (kv.1 = k)) = true then kvs.map (fun kv => if kv.1 = k then (kv.1, v) else kv) else kvs ++ [(k, v)]
def dropK (kvs : List (κ × V)) (k : κ) : List (κ × V) := kvs.filter fun kv => decide (kv.1 ≠ k)

theorem valV_nil {k : κ} : valV ([] : List (κ × V)) k = none := rfl
theorem valV_pos {p : κ × V} {r : List (κ × V)} {k : κ} (e : p.1 = k) : valV (p :: r) k = some p.2 := by simp [valV, List.find?_cons, e]
theorem valV_neg {p : κ × V} {r : List (κ × V)} {k : κ} (e : ¬ p.1 = k) : valV (p :: r) k = valV r k := by simp [valV, List.find?_cons, e]
theorem valV_any (k : κ) : ∀ kvs : List (κ × V), (kvs.any fun kv => decide (kv.1 = k)) = (valV kvs k).isSome
  | [] => rfl
  | p :: r => by
    rw [List.any_cons]
    by_cases e : p.1 = k
    · simp only [valV_pos e, decide_eq_true e, Bool.true_or, Option.isSome_some]
    · rw [valV_neg e, decide_eq_false e, Bool.false_or]; exact valV_any k r
theorem valV_map (k j : κ) (y : V) : ∀ kvs : List (κ × V), valV (kvs.map fun kv => if kv.1 = k then (kv.1, y) else kv) j = (valV kvs j).map fun x => if j = k then y else x
  | [] => rfl
  | p :: r => by
    have ih := valV_map k j y r
    rw [List.map_cons]
    by_cases h : p.1 = k
    · rw [if_pos h]
      by_cases e : p.1 = j
      · rw [valV_pos (p := (p.1, y)) e, valV_pos e, Option.map_some, if_pos (e.symm.trans h)]
      · rw [valV_neg (p := (p.1, y)) e, valV_neg e, ih]
    · rw [if_neg h]
      by_cases e : p.1 = j
      · rw [valV_pos (p := p) e, valV_pos e, Option.map_some, if_neg (fun z => h (e.trans z))]
      · rw [valV_neg (p := p) e, valV_neg e, ih]
theorem valV_snoc (k j : κ) (y : V) : ∀ kvs : List (κ × V), valV kvs k = none → valV (kvs ++ [(k, y)]) j = if j = k then some y else valV kvs j
  | [], _ => by
    by_cases e : k = j
    · rw [if_pos e.symm]; exact valV_pos (p := (k, y)) e
    · rw [if_neg (fun z => e z.symm)]; exact valV_neg (p := (k, y)) e
  | p :: r, hn => by
    rw [List.cons_append]
    have hk : ¬ p.1 = k := fun z => by rw [valV_pos z] at hn; cases hn
    rw [valV_neg hk] at hn
    have ih := valV_snoc k j y r hn
    by_cases e : p.1 = j
    · rw [valV_pos e, valV_pos e, if_neg (fun z => hk (e.trans z))]
    · rw [valV_neg e, valV_neg e, ih]
theorem valV_put (kvs : List (κ × V)) (k j : κ) (y : V) : valV (putK kvs k y) j = if j = k then some y else valV kvs j := by
  unfold putK
  by_cases a : (kvs.any fun kv => decide (kv.1 = k)) = true
  · rw [if_pos a, valV_map]
    rw [valV_any] at a
    by_cases e : j = k
    · obtain ⟨x, hx⟩ := Option.isSome_iff_exists.mp a
      rw [if_pos e, e, hx, Option.map_some, if_pos rfl]
    · rw [if_neg e]
      cases valV kvs j with
      | none => rfl
      | some x => rw [Option.map_some, if_neg e]
  · rw [if_neg a]
    refine valV_snoc k j y kvs ?_
    rw [valV_any] at a
    cases q : valV kvs k with
    | none => rfl
    | some x => rw [q] at a; exact (a rfl).elim
theorem RelO.isSome_eq {o : Option V} {u : Option Value} (r : RelO o u) : o.isSome = u.isSome := by
  cases o with
  | none => cases u with
    | none => rfl
    | some _ => exact (show False from r).elim
  | some _ => cases u with
    | none => exact (show False from r).elim
    | some _ => rfl
theorem RelO.getD {o : Option V} {u : Option Value} {d : V} {d' : Value} (r : RelO o u) (rd : RelV d d') : RelV (o.getD d) (u.getD d') := by
  cases o with
  | none => cases u with
    | none => exact rd
    | some _ => exact (show False from r).elim
  | some _ => cases u with
    | none => exact (show False from r).elim
    | some _ => exact r

/-- raw tables of the same keys -/
theorem KV.val {kvs : List (κ × V)} {vs : List (κ × Value)} (r : KV kvs vs) (k : κ) : RelO (valV kvs k) (valueAt vs k) := by
  unfold KV at r
  induction r with
  | nil => exact True.intro
  | @cons p q ps qs h t ih =>
    obtain ⟨h1, h2⟩ := h
    by_cases e : p.1 = k
    · have e' : q.1 = k := h1.symm.trans e
      have b : valueAt (q :: qs) k = some q.2 := by simp [valueAt, List.find?_cons, e']
      rw [valV_pos e, b]; exact h2
    · have e' : ¬ q.1 = k := fun z => e (h1.trans z)
      have b : valueAt (q :: qs) k = valueAt qs k := by simp [valueAt, List.find?_cons, e']
      rw [valV_neg e, b]; exact ih
theorem KV.any {kvs : List (κ × V)} {vs : List (κ × Value)} (r : KV kvs vs) (k : κ) : (kvs.any fun kv => decide (kv.1 = k)) = vs.any fun kv => decide (kv.1 = k) := by
  unfold KV at r
  induction r with
  | nil => rfl
  | cons h t ih => rw [List.any_cons, List.any_cons, ih, h.1]
theorem KV.repl {kvs : List (κ × V)} {vs : List (κ × Value)} (r : KV kvs vs) (k : κ) {y : V} {u : Value} (ry : RelV y u) :
    KV (kvs.map fun kv => if kv.1 = k then (kv.1, y) else kv) (vs.map fun kv => if kv.1 = k then (kv.1, u) else kv) := by
  unfold KV at r ⊢
  induction r with
  | nil => exact .nil
  | @cons p q ps qs h t ih =>
    rw [List.map_cons, List.map_cons]
    refine .cons ?_ ih
    obtain ⟨h1, h2⟩ := h
    by_cases e : p.1 = k
    · rw [if_pos e, if_pos (h1.symm.trans e)]; exact ⟨h1, ry⟩
    · rw [if_neg e, if_neg (fun z => e (h1.trans z))]; exact ⟨h1, h2⟩
theorem KV.put {kvs : List (κ × V)} {vs : List (κ × Value)} (r : KV kvs vs) (k : κ) {y : V} {u : Value} (ry : RelV y u) : KV (putK kvs k y) (stored vs k u) := by
  unfold putK stored
  rw [r.any k]
  by_cases e : (vs.any fun kv => decide (kv.1 = k)) = true
  · rw [if_pos e, if_pos e]; exact r.repl k ry
  · rw [if_neg e, if_neg e]; exact Paired.snoc r ⟨rfl, ry⟩
theorem KV.drop {kvs : List (κ × V)} {vs : List (κ × Value)} (r : KV kvs vs) (k : κ) : KV (dropK kvs k) (without vs k) := by
  unfold KV at r ⊢
  unfold dropK without
  induction r with
  | nil => exact .nil
  | @cons p q ps qs h t ih =>
    obtain ⟨h1, h2⟩ := h
    rw [List.filter_cons, List.filter_cons]
    by_cases e : p.1 = k
    · have a : ¬ decide (p.1 ≠ k) = true := by simp [e]
      have b : ¬ decide (q.1 ≠ k) = true := by simp [h1.symm.trans e]
      rw [if_neg a, if_neg b]; exact ih
    · have e' : ¬ q.1 = k := fun z => e (h1.trans z)
      have a : decide (p.1 ≠ k) = true := by simp [e]
      have b : decide (q.1 ≠ k) = true := by simp [e']
      rw [if_pos a, if_pos b]; exact .cons ⟨h1, h2⟩ ih
theorem KV.keys {kvs : List (κ × V)} {vs : List (κ × Value)} (r : KV kvs vs) : kvs.map (·.1) = vs.map (·.1) := by
  unfold KV at r
  induction r with
  | nil => rfl
  | cons h t ih => rw [List.map_cons, List.map_cons, ih, h.1]
theorem KV.length {kvs : List (κ × V)} {vs : List (κ × Value)} (r : KV kvs vs) : kvs.length = vs.length := Paired.length r
end


/-! ### a tracked dict, its keys ints and texts or tuples of these -/
/-- raw entries of a dict with tuple keys -/
abbrev KT (H : Hp) : List (List Key × V) → List (List Key × Addr × Value) → Prop := Paired fun p q => p.1 = q.1 ∧ H q.2.1 = some (.tup (p.1.map kV)) ∧ RelV p.2 q.2.2
theorem KT.val {H : Hp} {kvs : List (List Key × V)} {xs : List (List Key × Addr × Value)} (r : KT H kvs xs) (k : List Key) : RelO (valV kvs k) ((atKey xs k).map (·.2)) := by
  induction r with
  | nil => exact True.intro
  | @cons p q ps qs h t ih =>
    obtain ⟨h1, _, h2⟩ := h
    by_cases e : p.1 = k
    · have e' : q.1 = k := h1.symm.trans e
      have b : atKey (q :: qs) k = some q.2 := by simp [atKey, List.find?_cons, e']
      rw [valV_pos e, b]; exact h2
    · have e' : ¬ q.1 = k := fun z => e (h1.trans z)
      have b : atKey (q :: qs) k = atKey qs k := by simp [atKey, List.find?_cons, e']
      rw [valV_neg e, b]; exact ih
theorem KT.repl {H : Hp} {kvs : List (List Key × V)} {xs : List (List Key × Addr × Value)} (r : KT H kvs xs) (k : List Key) {y : V} {u : Value} (ry : RelV y u) :
    KT H (kvs.map fun kv => if kv.1 = k then (kv.1, y) else kv) (xs.map (putAt k u)) := by
  induction r with
  | nil => exact .nil
  | @cons p q ps qs h t ih =>
    rw [List.map_cons, List.map_cons]
    refine .cons ?_ ih
    obtain ⟨h1, h2, h3⟩ := h
    unfold putAt
    by_cases e : p.1 = k
    · rw [if_pos e, if_pos (h1.symm.trans e)]; exact ⟨h1, h2, ry⟩
    · rw [if_neg e, if_neg (fun z => e (h1.trans z))]; exact ⟨h1, h2, h3⟩
theorem KT.put {H : Hp} {kvs : List (List Key × V)} {xs : List (List Key × Addr × Value)} (r : KT H kvs xs) (k : List Key) {b : Addr} {y : V} {u : Value} (hb : H b = some (.tup (k.map kV))) (ry : RelV y u) :
    KT H (putK kvs k y) (storedH xs k b u) := by
  have e : (kvs.any fun kv => decide (kv.1 = k)) = (atKey xs k).isSome := by
    rw [valV_any, (r.val k).isSome_eq, Option.isSome_map]
  unfold putK storedH
  rw [e]
  by_cases q : (atKey xs k).isSome = true
  · rw [if_pos q, if_pos q]; exact r.repl k ry
  · rw [if_neg q, if_neg q]; exact Paired.snoc r ⟨rfl, hb, ry⟩
theorem KT.keeps {H H' : Hp} {kvs : List (List Key × V)} {xs : List (List Key × Addr × Value)} (r : KT H kvs xs) (ht : ∀ b ys, H b = some (.tup ys) → H' b = some (.tup ys)) : KT H' kvs xs :=
  Paired.mapP r fun _ _ z => ⟨z.1, ht _ _ z.2.1, z.2.2⟩

section
variable {P : Program} {w : World} {H : Hp} {h : Heap} {a : Addr}
end

/-- what the dict at a holds at the key y -/
def DGet (H : Hp) (a : Addr) (y : V) (r : Option V) : Prop :=
  (∃ kvs k, Rd H a (.dK kvs) ∧ y = kV k ∧ r = valV kvs k) ∨ ∃ kvs k b, Rd H a (.dT kvs) ∧ y = .ref b ∧ H b = some (.tup (k.map kV)) ∧ r = valV kvs k
/-- the heap behind a[y] = v -/
def DPut (H : Hp) (a : Addr) (y v : V) (H' : Hp) : Prop :=
  (∃ kvs k, H a = some (.dK kvs) ∧ y = kV k ∧ kvs.length < sizeLine ∧ H' = upd H a (.dK (putK kvs k v))) ∨
  ∃ kvs k b, H a = some (.dT kvs) ∧ y = .ref b ∧ H b = some (.tup (k.map kV)) ∧ kvs.length < sizeLine ∧ H' = upd H a (.dT (putK kvs k v))
theorem DGet.k {H : Hp} {a : Addr} {kvs : List (Key × V)} {k : Key} (e : H a = some (.dK kvs)) : DGet H a (kV k) (valV kvs k) := .inl ⟨kvs, k, .inl e, rfl, rfl⟩
theorem DGet.t {H : Hp} {a b : Addr} {kvs : List (List Key × V)} {k : List Key} (e : H a = some (.dT kvs)) (eb : H b = some (.tup (k.map kV))) : DGet H a (.ref b) (valV kvs k) := .inr ⟨kvs, k, b, .inl e, rfl, eb, rfl⟩
theorem DPut.k {H : Hp} {a : Addr} {kvs : List (Key × V)} {k : Key} {v : V} (e : H a = some (.dK kvs)) (hl : kvs.length < sizeLine) : DPut H a (kV k) v (upd H a (.dK (putK kvs k v))) := .inl ⟨kvs, k, e, rfl, hl, rfl⟩
theorem DPut.t {H : Hp} {a b : Addr} {kvs : List (List Key × V)} {k : List Key} {v : V} (e : H a = some (.dT kvs)) (eb : H b = some (.tup (k.map kV))) (hl : kvs.length < sizeLine) :
    DPut H a (.ref b) v (upd H a (.dT (putK kvs k v))) := .inr ⟨kvs, k, b, e, rfl, eb, hl, rfl⟩


section
variable {X : Cx} {pins : List (Addr × Obj)} {σ : St} {H : Hp} {s : Shared} {a : Addr} {y v : V} {u r : Value} {o : Option V} {A : Around} {E : Value → Shared → Prop}

end

section
variable {X : Cx} {pins : List (Addr × Obj)} {σ : St} {H : Hp} {s : Shared} {a : Addr} {kvs : List (Key × V)} {k : Key} {u : Value} {A : Around} {E : Value → Shared → Prop}
end


/-! ### readings and rules -/
section
variable {X : Cx} {o i e value : Expr} {pos pos' tpos : Pos} {td ty tv : TE}
end


/-! ### displays -/
section
variable {X : Cx} {pos : Pos}
end

/-! ### methods -/
/-- a method call o.m(e) of a built-in, with one argument: what must be seen of the text -/
structure M1 (X : Cx) (o : Expr) (m : Str) (apos : Pos) (e : Expr) (cpos : Pos) : Prop where
  base : attributeBase o m X.env (eval o X.env) = eval o X.env
  few : ((backTo cpos (starEach [e] X.env)).all (fun x => !x.1) && (backToKw cpos (keywordEach [] X.env)).all (fun x => x.1.isSome)
    && decide (([e] : List Expr).length + ([] : List Keyword).length + (if ([] : List Keyword).isEmpty then 0 else 1) < 30)) = true
  line : (apos.endLine == cpos.line) = true
  trees : backTo cpos (starEach [e] X.env) = [(false, eval e X.env)]
structure M2 (X : Cx) (o : Expr) (m : Str) (apos : Pos) (e f : Expr) (cpos : Pos) : Prop where
  base : attributeBase o m X.env (eval o X.env) = eval o X.env
  few : ((backTo cpos (starEach [e, f] X.env)).all (fun x => !x.1) && (backToKw cpos (keywordEach [] X.env)).all (fun x => x.1.isSome)
    && decide (([e, f] : List Expr).length + ([] : List Keyword).length + (if ([] : List Keyword).isEmpty then 0 else 1) < 30)) = true
  line : (apos.endLine == cpos.line) = true
  trees : backTo cpos (starEach [e, f] X.env) = [(false, eval e X.env), (false, eval f X.env)]

section
variable {X : Cx} {pins : List (Addr × Obj)} {σ : St} {H : Hp} {s : Shared} {a : Addr} {y d : V} {u r : Value} {o : Option V} {A : Around} {E : Value → Shared → Prop}
end

section
variable {X : Cx} {o e f : Expr} {apos cpos : Pos} {td ty tx : TE}
end

/-! ### dict(d): a copy -/
section
variable {X : Cx} {pins : List (Addr × Obj)} {σ : St} {H : Hp} {s : Shared} {a : Addr} {kvs : List (Key × V)} {A : Around} {E : Value → Shared → Prop}
end


section
variable {X : Cx} {pins : List (Addr × Obj)} {σ : St} {H : Hp} {s : Shared} {a : Addr} {y : V} {u : Value} {A : Around} {E : Value → Shared → Prop}
end
end L2

namespace HT
open PySem PyProof.Rows

section
open PySem.SeqAt
open PySem.AutoSeq1 (wpAny_loadPart')
open PySem.MeetsSeq PySem.MeetsSeq2 PySem.MeetsSeq3

end

section
variable {prog : Program} {w : World} {A : Around} {E : Value → Shared → Prop} {s : Shared}

/-! ### t[a:b], not the whole -/
/-- a slice's bound as a place among n (d where it is left out) -/
def sIx (n d : Nat) : Option Int → Nat
  | none => d
  | some v => if v < 0 then (v + (n : Int)).toNat else min v.toNat n
theorem sIx_nat (n d k : Nat) : sIx n d (some (k : Int)) = min k n := by
  show (if (k : Int) < 0 then ((k : Int) + (n : Int)).toNat else min (k : Int).toNat n) = min k n
  rw [if_neg (by omega), Int.toNat_natCast]
end
end HT

namespace L2
open PySem PySem.Spec PyProof.Rows

/-! ### the parts of a slice -/
abbrev TO := St → Hp → (Option Int → Hp → Prop) → Prop
/-- a slice's part (left out, or an int) -/
def PO (X : Cx) (e : Option Expr) (t : TO) : Prop :=
  ∀ (pins : List (Addr × Obj)) (s : Shared) (σ : St) (H : Hp) (Q : Option Int → Hp → Prop), Inv X pins σ H s → t σ H Q →
    wpAny (model X.prog X.w) X.A (evalPart e X.env) (fun u s' => ∃ o H', Inv X pins σ H' s' ∧ IsPart u o ∧ Q o H') X.xe s
def tNoPart : TO := fun _ H Q => Q none H
def tPart (t : TE) : TO := fun σ H Q => t σ H fun x H1 => ∃ i, x = .int i ∧ Q (some i) H1

theorem intsAre_of {ns : List Int} : ∀ {us : List Value}, Vals (ns.map V.int) us → IntsAre us ns := by
  induction ns with
  | nil => intro us r; rw [List.map_nil] at r; cases r; exact .nil
  | cons n ns ih =>
    intro us r
    rw [List.map_cons] at r
    cases r with
    | cons r1 r2 =>
      obtain ⟨t, e⟩ := r1
      subst e
      exact .cons n t (ih r2)

section
variable {X : Cx} {e : Expr} {te : TE} {lo hi : Option Expr} {tl th : TO} {pos p2 : Pos}

theorem po_none : PO X none tNoPart := by
  intro pins s σ H Q I h
  rw [evalPart_none]
  exact wpAny_pure ⟨none, H, I, .none, h⟩
theorem po_some (h : PE X e te) : PO X (some e) (tPart te) := by
  intro pins s σ H Q I hw
  rw [evalPart_some]
  refine thn (h pins s σ H _ I hw) fun u s1 ⟨x, H1, I1, r1, q1⟩ => ?_
  obtain ⟨i, rfl, q⟩ := q1
  obtain ⟨t, rfl⟩ := r1
  exact ⟨some i, H1, I1, .int i t, q⟩

/-- what a slice of a value is, by values: the slice object stands at sl -/
def SlR (X : Cx) (r : V → Option Int → Option Int → Hp → VK → Prop) : Prop :=
  ∀ (pins : List (Addr × Obj)) (s : Shared) (σ : St) (H : Hp) (x : V) (v vl vu : Value) (lo hi : Option Int) (sl : Addr) (Q : VK), Inv X pins σ H s → RelV x v → s.heap.IsSliceOf sl vl vu .none → IsPart vl lo → IsPart vu hi → r x lo hi H Q →
    ∃ T id, typeLookup (.type T) "__getitem__" = pure (some (.builtin id)) ∧ s.TypeIs v T ∧ wpAny (model X.prog X.w) X.A (getItem v (.ref sl)) (EP X pins σ Q) X.xe s
theorem SlR.or {r r' : V → Option Int → Option Int → Hp → VK → Prop} (h : SlR X r) (h' : SlR X r') : SlR X (fun x lo hi H Q => r x lo hi H Q ∨ r' x lo hi H Q) := by
  intro pins s σ H x v vl vu lo hi sl Q I rx hs pl pu q
  rcases q with q | q
  · exact h pins s σ H x v vl vu lo hi sl Q I rx hs pl pu q
  · exact h' pins s σ H x v vl vu lo hi sl Q I rx hs pl pu q
def tSl (r : V → Option Int → Option Int → Hp → VK → Prop) (te : TE) (tl th : TO) : TE := fun σ H Q => te σ H fun x H1 => tl σ H1 fun l H2 => th σ H2 fun u H3 => r x l u H3 Q
/-- a[lo:hi], any a -/
theorem pe_slice {r : V → Option Int → Option Int → Hp → VK → Prop} (hr : SlR X r) (he : PE X e te) (hl : PO X lo tl) (hu : PO X hi th) : PE X (.Subscript e (.Slice lo hi none p2) pos) (tSl r te tl th) := by
  intro pins s σ H Q I h
  refine Subscript_ (thn (he pins s σ H _ I h) fun v s1 ⟨x, H1, I1, r1, q1⟩ => ?_)
  refine wpAny_Slice (thn (hl pins s1 σ H1 _ I1 q1) fun vl s2 ⟨l, H2, I2, pl, q2⟩ => thn (hu pins s2 σ H2 _ I2 q2) fun vu s3 ⟨u, H3, I3, pu, q3⟩ => ?_)
  rw [evalPart_none]
  refine wpAny_pure ?_
  have I4 : Inv X pins σ H3 { s3 with heap := s3.heap.push { cls := .type "slice", data := .fields #[vl, vu, .none] } } := I3.kept (t' := s3.toks) fun b ob q => Heap.get?_push_of_some _ q
  obtain ⟨T, id, hT, ht, hg⟩ := hr pins { s3 with heap := s3.heap.push { cls := .type "slice", data := .fields #[vl, vu, .none] } } σ H3 x v vl vu l u s3.heap.objs.size Q I4 r1 (Heap.IsSliceOf.new ..) pl pu q3
  show wpAny (model X.prog X.w) X.A (subscriptTail e (.Slice lo hi none p2) v (.ref s3.heap.objs.size)) (EP X pins σ Q) X.xe { s3 with heap := s3.heap.push { cls := .type "slice", data := .fields #[vl, vu, .none] } }
  exact tail_any (ops := [.ref s3.heap.objs.size, v]) ht hT hg (by with_unfolding_all rfl)

/-- the items of xs[lo:hi] -/
def cutV (xs : List V) (lo hi : Option Int) : List V := (xs.drop (HT.sIx xs.length 0 lo)).take (HT.sIx xs.length xs.length hi - HT.sIx xs.length 0 lo)
theorem cutV_length (xs : List V) (lo hi : Option Int) : (cutV xs lo hi).length ≤ xs.length := by
  unfold cutV
  rw [List.length_take, List.length_drop]
  omega
/-! ### t < u, t + u -/
end
end L2

namespace L2
open PySem PySem.Spec PyProof.Rows

/-! ### places -/
/-- the place that an index of any sign means -/
def ixN (n : Nat) (i : Int) : Option Nat := if 0 ≤ i then (if i < n then some i.toNat else none) else if -(n : Int) ≤ i then some (i + n).toNat else none
def atI {α : Type} (xs : List α) (i : Int) : Option α := (ixN xs.length i).bind fun j => xs[j]?
theorem ixN_seq {n : Nat} {i : Int} {j : Nat} (h : ixN n i = some j) : seqIndex? i n = some j ∧ j < n ∧ -(n : Int) ≤ i ∧ i < n := by
  unfold ixN at h
  by_cases h0 : 0 ≤ i
  · rw [if_pos h0] at h
    by_cases h1 : i < n
    · rw [if_pos h1] at h
      have e : i.toNat = j := Option.some.inj h
      exact ⟨by rw [seqIndex_of h0 h1, e], by omega, by omega, h1⟩
    · rw [if_neg h1] at h; cases h
  · rw [if_neg h0] at h
    by_cases h1 : -(n : Int) ≤ i
    · rw [if_pos h1] at h
      have e : (i + n).toNat = j := Option.some.inj h
      exact ⟨by rw [seqIndex_neg (by omega) h1, e], by omega, h1, by omega⟩
    · rw [if_neg h1] at h; cases h
theorem atI_get {α : Type} {xs : List α} {i : Int} {v : α} (h : atI xs i = some v) : ∃ j, seqIndex? i xs.length = some j ∧ xs[j]? = some v ∧ j < xs.length ∧ -(xs.length : Int) ≤ i ∧ i < xs.length := by
  unfold atI at h
  cases e : ixN xs.length i with
  | none => rw [e] at h; cases h
  | some j =>
    rw [e] at h
    obtain ⟨h1, h2, h3, h4⟩ := ixN_seq e
    exact ⟨j, h1, h, h2, h3, h4⟩
theorem atI_nat {α : Type} {xs : List α} {j : Nat} {v : α} (h : xs[j]? = some v) : atI xs (j : Int) = some v := by
  have hj : j < xs.length := (List.getElem?_eq_some_iff.mp h).1
  have e : ixN xs.length (j : Int) = some j := by
    unfold ixN
    rw [if_pos (by omega), if_pos (by omega)]; simp
  unfold atI; rw [e]; exact h
/-! ### what may be subscripted -/
/-- what stands as an index of a plain subscript -/
def PlainIx (b : Expr) : Prop := ∀ o i, subscripted b false o i = operate [o, i] (getItem o i)
/-- a subscript by values -/
def IxR (X : Cx) (r : R2) : Prop :=
  ∀ (value slice : Expr) (pins : List (Addr × Obj)) (s : Shared) (σ : St) (H : Hp) (x y : V) (v u : Value) (Q : VK), Inv X pins σ H s → RelV x v → RelV y u → r x y H Q →
    subscripted slice false v u = operate [v, u] (getItem v u) → wpAny (model X.prog X.w) X.A (subscriptTail value slice v u) (EP X pins σ Q) X.xe s
/-- a call of a builtin's method by values: the receiver, the arguments -/
def MtR (X : Cx) (id : String) (r : V → List V → Hp → VK → Prop) : Prop :=
  ∀ (pins : List (Addr × Obj)) (s : Shared) (σ : St) (H : Hp) (x : V) (xs : List V) (v : Value) (us : List Value) (Q : VK), Inv X pins σ H s → RelV x v → Vals xs us → r x xs H Q →
    wpAny (model X.prog X.w) X.A (call (.builtin id) (v :: us)) (EP X pins σ Q) X.xe s
section
variable {X : Cx} {a b : Expr} {ta tb : TE} {pos : Pos}
theorem IxR.or {r r' : R2} (h : IxR X r) (h' : IxR X r') : IxR X (fun x y H Q => r x y H Q ∨ r' x y H Q) := by
  intro value slice pins s σ H x y v u Q I rx ry q hs
  rcases q with q | q
  · exact h value slice pins s σ H x y v u Q I rx ry q hs
  · exact h' value slice pins s σ H x y v u Q I rx ry q hs
theorem MtR.or {id : String} {r r' : V → List V → Hp → VK → Prop} (h : MtR X id r) (h' : MtR X id r') : MtR X id (fun x xs H Q => r x xs H Q ∨ r' x xs H Q) := by
  intro pins s σ H x xs v us Q I rx rs q
  rcases q with q | q
  · exact h pins s σ H x xs v us Q I rx rs q
  · exact h' pins s σ H x xs v us Q I rx rs q
/-- a[b] -/
theorem pe_ix {r : R2} (hr : IxR X r) (ha : PE X a ta) (hb : PE X b tb) (hs : PlainIx b) : PE X (.Subscript a b pos) (tOp r ta tb) := by
  intro pins s σ H Q I h
  exact Subscript_ (binT ha hb I h fun v u s2 x y H2 I2 rx ry q => hr a b pins s2 σ H2 x y v u Q I2 rx ry q (hs _ _))

def rIxL (K : PySem.W.Frag) : R2 := fun x y H Q => ∃ p xs i v, x = .ref p ∧ y = .int i ∧ SqL K H p xs ∧ atI xs i = some v ∧ Q v H
def rIxT (K : PySem.W.Frag) : R2 := fun x y H Q => ∃ p xs i v, x = .ref p ∧ y = .int i ∧ SqT K H p xs ∧ atI xs i = some v ∧ Q v H
def rIxS : R2 := fun x y H Q => ∃ z i c, x = .str z ∧ y = .int i ∧ z.length ≤ sizeLine ∧ atI z.cps.toList i = some c ∧ Q (.str ⟨#[c]⟩) H
theorem ix_list : IxR X (rIxL X.K) := by
  intro value slice pins s σ H x y v u Q I rx ry h hs
  obtain ⟨p, xs, i, z, rfl, rfl, hq, he, q⟩ := h
  cases rx
  obtain ⟨t, rfl⟩ := ry
  obtain ⟨its, r, pl, hz⟩ := I.list hq
  obtain ⟨j, h1, h2, h3, h4, h5⟩ := atI_get he
  obtain ⟨w, ew, rw'⟩ := r.get h2
  have hl := r.length
  have hn := line63
  have fin : EP X pins σ Q w s := ⟨z, H, I, rw', q⟩
  by_cases h0 : 0 ≤ i
  · have hj : i.toNat = j := by
      rw [seqIndex_of h0 h5] at h1
      exact Option.some.inj h1
    exact item_listR pl.isList h0 (by omega) (by rw [hj]; simpa using ew) fin hs
  · have hj : (i + (its.toArray.size : Int)).toNat = j := by
      rw [seqIndex_neg (by omega) h4] at h1
      rw [List.size_toArray, ← hl]
      exact Option.some.inj h1
    exact subscriptTail_builtinR (x := w) pl.isList.typeIs slot_list_getitem.lookup
      (wpAny_getItem_list_neg (Q := fun r s' => r = w ∧ EP X pins σ Q r s') pl.isList (by omega) (by rw [List.size_toArray] <;> omega) (by omega) (by rw [hj]; simpa using ew) ⟨rfl, fin⟩) hs
theorem ix_tup : IxR X (rIxT X.K) := by
  intro value slice pins s σ H x y v u Q I rx ry h hs
  obtain ⟨p, xs, i, z, rfl, rfl, hq, he, q⟩ := h
  cases rx
  obtain ⟨t, rfl⟩ := ry
  obtain ⟨its, r, pl, hz⟩ := I.tuple hq
  obtain ⟨j, h1, h2, h3, h4, h5⟩ := atI_get he
  obtain ⟨w, ew, rw'⟩ := r.get h2
  have hl := r.length
  have hn := line63
  have fin : EP X pins σ Q w s := ⟨z, H, I, rw', q⟩
  exact subscriptTail_builtinR (x := w) pl.typeIs slot_tuple_getitem.lookup
    (getItem_tuple (j := j) (Q := fun r s' => r = w ∧ EP X pins σ Q r s') pl (by omega) (by omega) (by rw [List.size_toArray, ← hl]; exact h1) (by simpa using ew) ⟨rfl, fin⟩) hs
theorem ix_str : IxR X rIxS := by
  intro value slice pins s σ H x y v u Q I rx ry h hs
  obtain ⟨z, i, c, rfl, rfl, hz, he, q⟩ := h
  obtain ⟨t, rfl⟩ := rx
  obtain ⟨t', rfl⟩ := ry
  obtain ⟨j, h1, h2, h3, h4, h5⟩ := atI_get he
  have hl : z.cps.toList.length = z.length := by simp [Str.length]
  rw [hl] at h1 h4 h5
  have hn := line63
  exact tail_any (typeIs_str s z t) slot_str_getitem.lookup (getItem_str (c := c) (by
    have e1 : decide (i < -(2 ^ 63 : Int)) = false := decide_eq_false (by omega)
    have e2 : decide (i ≥ 2 ^ 63) = false := decide_eq_false (by omega)
    rw [e1, e2, Bool.or_false]) (by rw [h1]; simpa using h2) ⟨.str ⟨#[c]⟩, H, I.tok _, ⟨_, rfl⟩, q⟩) hs
/-! ### xs[i] = v, any sign -/
theorem Inv.lst {pins : List (Addr × Obj)} {σ : St} {H : Hp} {s : Shared} {p : Addr} {xs : List V} (I : Inv X pins σ H s) (h : H p = some (.lst xs)) :
    ∃ (its : List Value) (n : Nat), Vals xs its ∧ s.heap.get? p = some { cls := .type "list", data := .seq its.toArray n } ∧ xs.length ≤ sizeLine := by
  obtain ⟨z, its, n, r, e⟩ := I.hok p _ h
  exact ⟨its, n, r, e, z⟩
/-! ### slices -/
theorem slice_bounds (lo hi : Option Int) (n : Nat) : (sliceBounds lo hi none n).1 = ((HT.sIx n 0 lo : Nat) : Int) ∧ (sliceBounds lo hi none n).2.1 = ((HT.sIx n n hi : Nat) : Int) ∧ (sliceBounds lo hi none n).2.2 = 1 := by
  refine ⟨?_, ?_, rfl⟩
  · cases lo with
    | none => simp [sliceBounds, HT.sIx]
    | some i =>
      simp only [sliceBounds, HT.sIx, Option.getD_none, show (1 : Int) > 0 by decide, if_true]
      by_cases h : i < 0
      · simp only [h, if_true] <;> omega
      · simp only [h, if_false] <;> omega
  · cases hi with
    | none => simp [sliceBounds, HT.sIx]
    | some i =>
      simp only [sliceBounds, HT.sIx, Option.getD_none, show (1 : Int) > 0 by decide, if_true]
      by_cases h : i < 0
      · simp only [h, if_true] <;> omega
      · simp only [h, if_false] <;> omega
theorem slicePick_cut (its : List Value) (lo hi : Option Int) : slicePick its.toArray lo hi none = ((its.drop (HT.sIx its.length 0 lo)).take (HT.sIx its.length its.length hi - HT.sIx its.length 0 lo)).toArray := by
  obtain ⟨h1, h2, h3⟩ := slice_bounds lo hi its.toArray.size
  unfold slicePick
  rw [h1, h2, h3]
  simp only [sliceRange_one, pick_run, List.size_toArray] <;> rfl
/-- xs[lo:hi] of a list: a new list -/
def rSlL (K : PySem.W.Frag) : V → Option Int → Option Int → Hp → VK → Prop := fun x lo hi H Q => ∃ a xs, x = .ref a ∧ SqL K H a xs ∧ ∀ p, H p = none → Q (.ref p) (upd H p (.lst (cutV xs lo hi)))
theorem sl_list : SlR X (rSlL X.K) := by
  intro pins s σ H x v vl vu lo hi sl Q I rx hs pl pu h
  obtain ⟨a, xs, rfl, hx, q⟩ := h
  cases rx
  obtain ⟨its, r, ht, hz⟩ := I.list hx
  have hlen := r.length
  refine ⟨"list", _, slot_list_getitem.lookup, ht.isList.typeIs, ?_⟩
  refine wpAny_getItem_list_slice ht.isList hs pl pu .none (by simp) ?_ (by rw [List.size_toArray] <;> omega)
  rw [slicePick_cut, ← hlen]
  refine ⟨.ref s.heap.objs.size, _, I.laid (t' := s.toks) (o := .lst (cutV xs lo hi)) (fun b ob q => Heap.get?_push_of_some _ q) (Nat.le_refl _) ?_, rfl, q _ (I.hok.fresh (Nat.le_refl _))⟩
  exact ⟨Nat.le_trans (cutV_length xs lo hi) hz, _, 0, (r.drop (HT.sIx xs.length 0 lo)).take (HT.sIx xs.length xs.length hi - HT.sIx xs.length 0 lo), Heap.get?_push_size _ rfl⟩

/-! ### in, not in: flat items -/
def flatV : V → Bool
  | .non => true
  | .bl _ => true
  | .int _ => true
  | .str _ => true
  | _ => false
/-- == of flat values -/
def eqV : V → V → Bool
  | .non, .non => true
  | .bl a, .bl b => a == b
  | .bl a, .int b => (if a then 1 else 0) == b
  | .int a, .bl b => a == (if b then 1 else 0)
  | .int a, .int b => a == b
  | .str a, .str b => a == b
  | _, _ => false
theorem eqAt_V {A : Around} {s : Shared} {y x : V} {u v : Value} (ry : RelV y u) (rx : RelV x v) (fy : flatV y = true) (fx : flatV x = true) : SeqAt.EqAt A s u v (eqV y x) := by
  cases y with
  | non =>
    cases ry
    cases x with
    | non => cases rx; exact SeqAt.EqAt.same _
    | bl b => cases rx; exact SeqAt.EqAt.none_bool b
    | int b => obtain ⟨t, rfl⟩ := rx; exact SeqAt.EqAt.none_int b t
    | str b => obtain ⟨t, rfl⟩ := rx; exact SeqAt.EqAt.none_str b t
    | _ => exact absurd (show false = true from fx) Bool.false_ne_true
  | bl a =>
    cases ry
    cases x with
    | non => cases rx; exact SeqAt.EqAt.bool_none a
    | bl b => cases rx; exact SeqAt.EqAt.bool_bool a b
    | int b => obtain ⟨t, rfl⟩ := rx; exact SeqAt.EqAt.bool_int a b t
    | str b => obtain ⟨t, rfl⟩ := rx; exact SeqAt.EqAt.bool_str a b t
    | _ => exact absurd (show false = true from fx) Bool.false_ne_true
  | int a =>
    obtain ⟨t', rfl⟩ := ry
    cases x with
    | non => cases rx; exact SeqAt.EqAt.int_none a t'
    | bl b => cases rx; exact SeqAt.EqAt.int_bool a t' b
    | int b => obtain ⟨t, rfl⟩ := rx; exact SeqAt.EqAt.int_int a t' b t
    | str b => obtain ⟨t, rfl⟩ := rx; exact SeqAt.EqAt.int_str a t' b t
    | _ => exact absurd (show false = true from fx) Bool.false_ne_true
  | str a =>
    obtain ⟨t', rfl⟩ := ry
    cases x with
    | non => cases rx; exact SeqAt.EqAt.str_none a t'
    | bl b => cases rx; exact SeqAt.EqAt.str_bool a t' b
    | int b => obtain ⟨t, rfl⟩ := rx; exact SeqAt.EqAt.str_int a t' b t
    | str b => obtain ⟨t, rfl⟩ := rx; exact SeqAt.EqAt.str_str a t' b t
    | _ => exact absurd (show false = true from fx) Bool.false_ne_true
  | _ => exact absurd (show false = true from fy) Bool.false_ne_true
theorem op_notIn_str : OpR X (compareOp .NotIn) (fun x y H Q => ∃ i j, x = .str i ∧ y = .str j ∧ Q (.bl (!(!(Builtin.Str.occurrences j i 0 j.length 1).isEmpty))) H) := by
  intro pins s σ H x y v u Q I rx ry h
  obtain ⟨i, j, rfl, rfl, q⟩ := h
  obtain ⟨t, rfl⟩ := rx
  obtain ⟨t', rfl⟩ := ry
  exact notIn_str ⟨.bl _, H, I, rfl, q⟩

/-! ### len, list(x), tuple(x) of any list or tuple that is read -/
theorem call_len_seq : CallR X (.builtin "len") (fun xs H Q => ∃ p ys, xs = [.ref p] ∧ (SqL X.K H p ys ∨ SqT X.K H p ys) ∧ Q (.int ys.length) H) := by
  intro pins s σ H xs us Q I r h
  obtain ⟨p, ys, rfl, hq, q⟩ := h
  obtain ⟨u, rfl, rx⟩ := vals1 r
  cases rx
  have hn := line63
  rcases hq with hq | hq
  · obtain ⟨its, r', pl, hz⟩ := I.list hq
    have hlen := r'.length
    exact Calls.call_len_list pl.isList (by simp only [List.size_toArray] <;> omega) ⟨.int ys.length, H, I.tok _, ⟨s.toks + 1, by rw [List.size_toArray, hlen]⟩, q⟩
  · obtain ⟨its, r', pl, hz⟩ := I.tuple hq
    have hlen := r'.length
    exact len_tuple pl (by simp only [List.size_toArray] <;> omega) ⟨.int ys.length, H, I.tok _, ⟨s.toks + 1, by rw [List.size_toArray, hlen]⟩, q⟩
theorem call_len_str : CallR X (.builtin "len") (fun xs H Q => ∃ z, xs = [.str z] ∧ z.length ≤ sizeLine ∧ Q (.int z.length) H) := by
  intro pins s σ H xs us Q I r h
  obtain ⟨z, rfl, hz, q⟩ := h
  obtain ⟨u, rfl, t, rfl⟩ := vals1 r
  have hn := line63
  exact len_str (by omega) ⟨.int z.length, H, I.tok _, ⟨_, rfl⟩, q⟩
theorem CallR.or {f : Value} {r r' : List V → Hp → VK → Prop} (h : CallR X f r) (h' : CallR X f r') : CallR X f (fun xs H Q => r xs H Q ∨ r' xs H Q) := by
  intro pins s σ H xs us Q I rs q
  rcases q with q | q
  · exact h pins s σ H xs us Q I rs q
  · exact h' pins s σ H xs us Q I rs q
theorem call_list_of : CallR X (.type "list") (fun xs H Q => ∃ p ys, xs = [.ref p] ∧ (SqL X.K H p ys ∨ SqT X.K H p ys) ∧ ∀ l, H l = none → Q (.ref l) (upd H l (.lst ys))) := by
  intro pins s σ H xs us Q I r h
  obtain ⟨p, ys, rfl, hq, q⟩ := h
  obtain ⟨u, rfl, rx⟩ := vals1 r
  cases rx
  have fin : ∀ (its : List Value), Vals ys its → ys.length ≤ sizeLine → ∀ (h' : Heap) (c' : Nat), (∀ b o', s.heap.get? b = some o' → h'.get? b = some o') →
      h'.get? s.heap.objs.size = some { cls := .type "list", dict := none, data := .seq its.toArray c', slots := #[] } → EP X pins σ Q (.ref s.heap.objs.size) { s with heap := h' } := fun its r' hz h' c' kp e =>
    ⟨.ref s.heap.objs.size, _, I.laid (t' := s.toks) kp (Nat.le_refl _) (show ObjOk X.prog X.w _ h' _ (.lst ys) from ⟨hz, its, c', r', e⟩), rfl, q _ (I.hok.fresh (Nat.le_refl _))⟩
  rcases hq with hq | hq
  · obtain ⟨its, r', pl, hz⟩ := I.list hq
    have hlen := r'.length
    obtain ⟨o, ho, hc, n, hd⟩ := pl.isList
    exact call_list_seq p (.inl rfl) ho hc hd (fun h' c' kp e => fin its r' hz h' c' kp e) (by simp only [List.size_toArray] <;> omega)
  · obtain ⟨its, r', pl, hz⟩ := I.tuple hq
    have hlen := r'.length
    obtain ⟨o, ho, hc, n, hd⟩ := pl
    exact call_list_seq p (.inr rfl) ho hc hd (fun h' c' kp e => fin its r' hz h' c' kp e) (by simp only [List.size_toArray] <;> omega)
/-! ### the call of a builtin's method: o.m(..) -/
/-- the value is of that builtin type -/
def tyV (K : PySem.W.Frag) (T : String) (x : V) (H : Hp) : Prop := match x with
  | .str _ => T = "str"
  | .int _ => T = "int"
  | .ref p => (T = "list" ∧ ∃ xs, SqL K H p xs) ∨ (T = "tuple" ∧ ∃ o, K.lookup p = some o ∧ o.cls = .type "tuple" ∧ o.dict = none) ∨
      (T = "dict" ∧ ((∃ kvs, H p = some (.dK kvs)) ∨ ∃ kvs, H p = some (.dT kvs))) ∨ (T = "set" ∧ ∃ S n, H p = some (.set S n))
  | _ => False
theorem tyV_is {pins : List (Addr × Obj)} {σ : St} {H : Hp} {s : Shared} {T : String} {x : V} {v : Value} (I : Inv X pins σ H s) (r : RelV x v) (ty : tyV X.K T x H) :
    s.TypeIs v T ∧ ∀ a, v = .ref a → ∃ ob, s.heap.get? a = some ob ∧ ob.dict = none := by
  cases x with
  | str z =>
    obtain ⟨t, rfl⟩ := r
    cases (show T = "str" from ty)
    exact ⟨typeIs_str s z t, fun _ e => nomatch e⟩
  | int i =>
    obtain ⟨t, rfl⟩ := r
    cases (show T = "int" from ty)
    exact ⟨typeIs_int s i t, fun _ e => nomatch e⟩
  | ref p =>
    cases r
    rcases ty with ⟨rfl, xs, hq⟩ | ⟨rfl, o, hk, hc, hd⟩ | ⟨rfl, hk⟩ | ⟨rfl, S, n, hk⟩
    · obtain ⟨its, _, pl, _⟩ := I.list hq
      refine ⟨pl.isList.typeIs, fun a e => ?_⟩
      cases e
      obtain ⟨o, n, e, c, hd, _⟩ := pl
      exact ⟨o, e, hd⟩
    · refine ⟨⟨o, I.kIn p o hk, hc⟩, fun a e => ?_⟩
      cases e
      exact ⟨o, I.kIn _ o hk, hd⟩
    · have z : ∃ o, s.heap.get? p = some o ∧ o.ExactDict := by
        rcases hk with ⟨kvs, hk⟩ | ⟨kvs, hk⟩
        · obtain ⟨_, _, _, _, o, _, _, e, ex, _⟩ := I.hok p _ hk
          exact ⟨o, e, ex⟩
        · obtain ⟨_, _, _, _, o, _, _, e, ex, _⟩ := I.hok p _ hk
          exact ⟨o, e, ex⟩
      obtain ⟨o, e, ex⟩ := z
      refine ⟨⟨o, e, ex.1⟩, fun a e2 => ?_⟩
      cases e2
      exact ⟨o, e, ex.2.1⟩
    · obtain ⟨o, _, _, _, e, ex, _⟩ := I.hok p _ hk
      refine ⟨⟨o, e, ex.1⟩, fun a e2 => ?_⟩
      cases e2
      exact ⟨o, e, ex.2.1⟩
  | _ => exact False.elim ty
def tBM (K : PySem.W.Frag) (T : String) (r : V → List V → Hp → VK → Prop) (to : TE) (t : TA) : TE := fun σ H Q => to σ H fun x H1 => tyV K T x H1 ∧ t σ H1 fun xs H2 => r x xs H2 Q
variable {o e : Expr} {es : List Expr} {to : TE} {t : TA} {name : Str} {apos cpos : Pos} {T id : String} {r : V → List V → Hp → VK → Prop}
theorem pe_bm (pa : PlainAttrs T) (slot : Slot T name id) (hty : typeOf (.builtin id) = pure (.type "method_descriptor")) (hm : MtR X id r) (ho : PE X o to) (ha : PA X (e :: es) t)
    (hbase : attributeBase o name X.env (eval o X.env) = eval o X.env := by rfl)
    (hfew : ((backTo cpos (starEach (e :: es) X.env)).all (fun x => !x.1) && (backToKw cpos (keywordEach [] X.env)).all (fun x => x.1.isSome)
      && decide ((e :: es).length + ([] : List Keyword).length + (if ([] : List Keyword).isEmpty then 0 else 1) < 30)) = true := by rfl)
    (hline : (apos.endLine == cpos.line) = true := by rfl) (hs : starEach (e :: es) X.env = (false, eval e X.env) :: starEach es X.env := by rfl) (hplain : (backTo cpos (starEach es X.env)).any (·.1) = false := by rfl) :
    PE X (.Call (.Attribute o name apos) (e :: es) [] cpos) (tBM X.K T r to t) := by
  intro pins s σ H Q I h
  refine wpAny_Call_method_late hbase hfew hline rfl (thn (ho pins s σ H _ I h) fun v s1 ⟨x, H1, I1, r1, ty, q1⟩ => ?_)
  obtain ⟨h1, h2⟩ := tyV_is I1 r1 ty
  refine ⟨T, id, pa, slot, hty, h1, h2, ?_⟩
  have hA := ha cpos pins s1 σ H1 _ I1 q1
  rw [hs] at hA ⊢
  refine Calls.callWith_builtin (by show (false || (backTo cpos (starEach es X.env)).any (·.1)) = false; rw [hplain] <;> rfl) (Calls.evalArgs_plain ?_)
  exact thn hA fun us s2 ⟨vs, H2, I2, r2, q2⟩ => hm pins s2 σ H2 x vs v us Q I2 r1 r2 q2
/- xs.append(e), list.index on a module's tuple .. are MtR facts of 06m -/
end
end L2

namespace L2
open PySem PySem.Spec PyProof.Rows

def MtM (X : Cx) (id : String) (r : V → List V → Hp → VK → Prop) : Prop :=
  ∀ (pins : List (Addr × Obj)) (s : Shared) (σ : St) (H : Hp) (x : V) (xs : List V) (v : Value) (us : List Value) (Q : VK), Inv X pins σ H s → RelV x v → Vals xs us → r x xs H Q →
    wpAny (model X.prog X.w) X.A (call (.builtin id) (v :: us)) (EP X pins σ Q) X.xe s

/-! ### lists of values -/
theorem Vals.one : ∀ {x : V} {us : List Value}, Vals [x] us → ∃ u, us = [u] ∧ RelV x u
  | _, _, .cons r .nil => ⟨_, rfl, r⟩
theorem Vals.two : ∀ {x y : V} {us : List Value}, Vals [x, y] us → ∃ u v, us = [u, v] ∧ RelV x u ∧ RelV y v
  | _, _, _, .cons r (.cons q .nil) => ⟨_, _, rfl, r, q⟩
theorem Vals.zero : ∀ {us : List Value}, Vals [] us → us = []
  | _, .nil => rfl
theorem Vals.dropLast {xs : List V} {us : List Value} (h : Vals xs us) : Vals xs.dropLast us.dropLast := by
  induction h with
  | nil => exact .nil
  | cons r t ih =>
    cases t with
    | nil => exact .nil
    | cons q t' => exact .cons r ih
section
variable {X : Cx} {pins : List (Addr × Obj)} {σ : St} {H : Hp} {s : Shared} {l b : Addr} {xs ys zs : List V}

/-! ### the two steps: a tracked list is rewritten, a new list is laid -/
theorem Inv.lset {its its' : List Value} {n : Nat} {f : Array Value → Array Value} {t' : Nat} (I : Inv X pins σ H s) (hH : H l = some (.lst xs))
    (e : s.heap.get? l = some { cls := .type "list", data := .seq its.toArray n }) (hf : f its.toArray = its'.toArray) (hv : Vals ys its') (hz : ys.length ≤ sizeLine) :
    Inv X pins σ (upd H l (.lst ys)) { s with heap := s.heap.update l (Obj.mapSeq f), toks := t' } := by
  have q := PySem.IsL.update e f
  rw [hf] at q
  refine I.write (x := l) (e := l) (by rw [hH]; exact trivial) (.inl rfl) (fun b' u hb hu => (Heap.get?_update_other s.heap (Obj.mapSeq f) (Ne.symm hb)).trans hu) ⟨_, q⟩ ?_
  exact ⟨hz, its', _, hv, q⟩
theorem Inv.lnew {its : List Value} {t' : Nat} (I : Inv X pins σ H s) (hv : Vals ys its) (hz : ys.length ≤ sizeLine) :
    Inv X pins σ (upd H s.heap.objs.size (.lst ys)) { s with heap := s.heap.push { cls := .type "list", data := .seq its.toArray }, toks := t' } :=
  I.laid (fun _ _ q => Heap.get?_push_of_some _ q) (Nat.le_refl _) ⟨hz, its, 0, hv, Heap.get?_push_size _ rfl⟩
theorem Inv.fresh (I : Inv X pins σ H s) : H s.heap.objs.size = none := I.hok.fresh (Nat.le_refl _)
theorem Inv.lstM (I : Inv X pins σ H s) (hH : H l = some (.lst xs)) : xs.length ≤ sizeLine ∧ ∃ (its : List Value) (n : Nat), Vals xs its ∧ xs.length = its.length ∧ s.heap.get? l = some { cls := .type "list", data := .seq its.toArray n } := by
  obtain ⟨z, its, n, r, e⟩ := I.hok l _ hH
  exact ⟨z, its, n, r, r.length, e⟩

end

section
variable {X : Cx}

/-! ### methods -/
def rAppend : V → List V → Hp → VK → Prop := fun x vs H Q => ∃ l xs y, x = .ref l ∧ vs = [y] ∧ H l = some (.lst xs) ∧ xs.length < sizeLine ∧ Q .non (upd H l (.lst (xs ++ [y])))
theorem mt_append : MtM X "list.append" rAppend := by
  intro pins s σ H x vs v us Q I rx rv h
  obtain ⟨l, xs, y, rfl, rfl, hH, hz, q⟩ := h
  cases rx
  obtain ⟨u, rfl, ru⟩ := rv.one
  obtain ⟨z, its, n, r, hl, e⟩ := I.lstM hH
  refine call_meets F.slot_list_append ⟨_, e, rfl⟩ F.entry_list_append (F.args_list_append_2 _ _) (PySem.list_append l its.toArray n u (by rw [List.size_toArray]; omega)) ⟨e, ?_⟩
  refine ⟨.non, _, I.lset (its' := its ++ [u]) hH e (by simp) (r.append (.cons ru .nil)) ?_, rfl, q⟩
  rw [List.length_append, List.length_singleton]
  omega

/-! ### list + list, list += list, list * int -/
def rCat : R2 := fun x y H Q => ∃ l b xs zs, x = .ref l ∧ y = .ref b ∧ H l = some (.lst xs) ∧ H b = some (.lst zs) ∧ xs.length + zs.length ≤ sizeLine ∧ ∀ p, H p = none → Q (.ref p) (upd H p (.lst (xs ++ zs)))
theorem op_cat : OpR X (binaryOp .Add) rCat := by
  intro pins s σ H x y v u Q I rx ry h
  obtain ⟨l, b, xs, zs, rfl, rfl, hH, hB, hz, q⟩ := h
  cases rx
  cases ry
  obtain ⟨z, its, n, r, hl, e⟩ := I.lstM hH
  obtain ⟨z2, its2, n2, r2, hl2, e2⟩ := I.lstM hB
  refine PySem.P.add_list e e2 ?_ (by rw [List.size_toArray, List.size_toArray]; omega)
  have ea : its.toArray ++ its2.toArray = (its ++ its2).toArray := by simp
  rw [ea]
  exact ⟨.ref _, _, I.lnew (t' := s.toks) (r.append r2) (by rw [List.length_append]; omega), rfl, q _ I.fresh⟩
/-! ### del xs[i] -/
end

/-! ### xs[a:b] = ys -/
section
variable {prog : Program} {w : World} {A : Around} {E : Value → Shared → Prop} {s : Shared}
end

section
variable {X : Cx}
end
end L2

namespace Att
open PySem PySem.W PySem.Calls PyProof.Rows

/-! ### the script -/
theorem ints_of_wellAll {P : Params} {h : Heap} : ∀ (ns : List Int) (vs : List Value), WellAll P h vs (ns.map WData.int) → IntsAre vs ns := by
  intro ns
  induction ns with
  | nil =>
    intro vs w
    rw [List.map_nil] at w
    cases w
    exact .nil
  | cons n ns ih =>
    intro vs w
    rw [List.map_cons] at w
    cases w with
    | cons a b =>
      cases a
      exact .cons _ _ (ih _ b)

theorem script_of {l : OpenLaw} {n : Nat} (hn : l.most = some n) {P : Params} {h : Heap} {args : List WData} {vals : List Value}
    (hpre : l.row.toRowW.claim.pre args = true) (hwl : WellAll P h vals args) :
    ∃ a vs ns, vals = [Value.ref a] ∧ args = [WData.list (ns.map WData.int)] ∧ h.get? a = some { cls := .type "list", data := .seq vs.toArray } ∧ IntsAre vs ns ∧ ns.length ≤ n := by
  have hsh : WShape.hasAll [] args [.list .int] = true := (pre_splitW hpre).1
  have hc : l.pre.holds [] { args := args } = true := (pre_splitW hpre).2
  obtain ⟨d, r, rfl, h1, h2⟩ := hasAllW_cons hsh
  obtain rfl := hasAllW_nil h2
  obtain ⟨xs, rfl, h3⟩ := hasW_list h1
  obtain ⟨ns, rfl⟩ := items_int h3
  have hlen : ns.length ≤ n := by
    unfold OpenLaw.pre at hc
    have h4 : (WTm.not (.lt (.lit (.int (n : Int))) (.len (.arg 0)))).holds [] { args := [.list (ns.map .int)] } = true := by
      have h4 := (holds_andW hc).1
      rw [hn] at h4
      exact h4
    have h5 := condW_of h4 (w_not (w_lt w_lit (w_len_list (w_arg rfl))))
    rw [List.length_map] at h5
    refine Nat.le_of_not_lt fun q => ?_
    have q' : (n : Int) < ((ns.length : Nat) : Int) := by omega
    first
      | (rw [decide_eq_true q'] at h5; exact absurd h5 (by decide))
      | (simp at h5; omega)
  cases hwl with
  | cons w1 w2 =>
    cases w2
    cases w1 with
    | list ho hall => exact ⟨_, _, ns, rfl, rfl, ho, ints_of_wellAll ns _ hall, hlen⟩

theorem post_true (l : OpenLaw) (args : List WData) : l.row.toRowW.claim.post args (.bool true) args = true :=
  postW_of (r := l.row.toRowW) (X := (true == true))
    (show WShape.has [] (.bool true) .bool = true by first | rfl | decide | simp [WShape.has, WShape.arms, WShape.armsAll])
    (show (WTm.eq .res (.lit (.bool true))).value [] { args := args, res := some (.bool true), after := args } = some (.bool (true == true)) from w_eq_bool (w_res rfl) w_lit) rfl

/-! ### the attachment: holds_open's last premise (the goal 'hc' behind k_head) from a wpAny of the law's body -/
/-- the same from a codeAny of the CALL (for a layer whose function contracts speak of calls) -/
theorem attach_call {l : OpenLaw} {n : Nat} {q : Program} {loose : List Str} {XP : (Str → Option Value) → Heap → Prop} {YP : World → Heap → Prop} {d : DefRec}
    (hn : l.most = some n) (hdf : d.params.defaults = [])
    (call : ∀ (w : World) (s₀ s₁ : Shared) (mg mb : Str → Option Value) (fa : Addr) (o : Obj) (pm cd doc : Value) (a : Addr) (vs : List Value) (ns : List Int),
      Ground q loose [] XP w s₀ mg mb s₁.heap → YP w s₁.heap →
      s₁.heap.get? fa = some o → o.data = .func (docDef d.name d.params d.body d.scope pm cd doc) → s₁.heap.CodeRec cd d.name → mg d.name = some (.ref fa) →
      s₁.heap.get? a = some { cls := .type "list", data := .seq vs.toArray } → IntsAre vs ns → ns.length ≤ n → s₁.gens = #[] →
      codeAny (model l.prog w) callerA (.call (.ref fa) ⟨[.ref a], []⟩) (fun r s' => r = .ok (.ret (.bool true)) ∧ OldK s₁.heap s'.heap ∧ s'.os = s₁.os ∧ AllBare s'.gens) s₁) :
    WalkO q loose XP YP l.row.toRowW d [] (fun f vs => PySem.call f vs) := by
  intro w s₀ s₁ mg mb G Y fa o pm cd doc dV kV ho hd hcd hD hmg hg args vals as hpre hlay hrd hwl hlo
  obtain rfl : dV = .none := Dflts.none hD hdf
  obtain rfl : kV = .none := Dflts.noKw hD
  obtain ⟨a, vs, ns, rfl, rfl, hobj, hints, hlen⟩ := script_of hn hpre hwl
  refine enter_call (codeAny_mono (call w s₀ s₁ mg mb fa o pm cd doc a vs ns G Y ho (fd_plain hd) hcd hmg hobj hints hlen hg) fun r s' hq => ?_)
  obtain ⟨rfl, h2, h3, h4⟩ := hq
  exact ⟨.inl ⟨.bool true, .bool true, [], rfl, fun _ => rfl, .bool true, post_true l _, fun _ => ⟨List.Pairwise.nil, fun _ hm => (nomatch hm)⟩⟩, h2, h3, h4⟩

/-! ### rules over ANY heap (no ledger) from facts about the written part K: the library's own take a ledger (News) for what they write -/
section
variable {prog : Program} {w : World} {A : Around} {E : Value → Shared → Prop} {s : Shared} {K : Frag}

/-! the whole heap as the ledger: makes every rule that writes through a ledger a rule over any heap -/
def ledger (h : Heap) (L d : Addr) : List (Addr × Obj) := (List.range h.objs.size).filterMap fun a => if a = L ∨ a = d then none else (h.get? a).map fun o => (a, o)
end
end Att

namespace L2
open PySem PySem.Spec PyProof.Rows

theorem vals_ints : ∀ {vs : List Value} {ns : List Int}, IntsAre vs ns → Vals (ns.map V.int) vs
  | _, _, .nil => .nil
  | _, _, .cons n t h => .cons ⟨t, rfl⟩ (vals_ints h)

/-- nothing is tracked but the script, known to the object (or it is an object of the module) -/
def Only (H : Hp) : Prop := ∀ b, H b = none ∨ ∃ o xs, H b = some (.frz o (.lst xs))

/-- THE HEAD: the law's promise, at the heap behind the top. F, the promise of the law's def, may use that base is part of the heap (so K.In base, base.Ns mainGlobals mg stand in Mod) -/
theorem law_call {P : Program} {w : World} {K : PySem.W.Frag} {mg mb : Str → Option Value} {CX : CXT} {k : Nat} {fa a : Addr} {fd : FuncData} {x : Str} {sp : Sp} {s₁ : Shared} {vs : List Value} {ns : List Int}
    (KX : K.In s₁.heap) (hns : s₁.heap.Ns mainGlobals mg) (hb : s₁.heap.Ns builtinsNs mb) (hbb : ∀ x : Str, x ≠ "__name__" → mb x = bootBuiltins x) (hlim : s₁.heap.NoLimit) (hg : s₁.gens = #[])
    (ha : s₁.heap.get? a = some { cls := .type "list", data := .seq vs.toArray }) (hi : IntsAre vs ns) (hl : ns.length ≤ sizeLine) (hr : Room k callerA)
    (F : ∀ base : Heap, K.In base → base.Ns mainGlobals mg → FnOk P w K mg base CX k fa fd [x] sp) (hbind : ∀ (s : Shared) (u : Value), BindsTo s fd ⟨[u], []⟩ [(x, u)])
    (hsp : ∀ H : Hp, Only H → SqL K H a (ns.map V.int) → sp [.ref a] H (fun v _ => v = .bl true) fun _ _ _ => False)
    (hCX : ∀ H e s', CX [] H s₁ (fun _ _ _ => False) e s' → False) :
    codeAny (model P w) callerA (.call (.ref fa) ⟨[.ref a], []⟩) (fun r s' => r = .ok (.ret (.bool true)) ∧ OldK s₁.heap s'.heap ∧ s'.os = s₁.os ∧ AllBare s'.gens) s₁ := by
  have rv := vals_ints hi
  have lenV := hi.length
  -- from an abstract heap in which nothing but the script may be tracked
  have core : ∀ H : Hp, Only H → SqL K H a (ns.map V.int) → HOk P w H s₁.heap → (∀ b, H b ≠ none → b = a) → (H a ≠ none → K.lookup a = none) →
      codeAny (model P w) callerA (.call (.ref fa) ⟨[.ref a], []⟩) (fun r s' => r = .ok (.ret (.bool true)) ∧ OldK s₁.heap s'.heap ∧ s'.os = s₁.os ∧ AllBare s'.gens) s₁ := by
    intro H hO hS hok hA hK
    have base_of : ∀ {b : Addr} {o : Obj}, s₁.heap.get? b = some o → H b = none → (hidT s₁.heap H).get? b = some o := fun e n => hidT_get e n
    have noA : ∀ {b : Addr} {o : Obj} {es : Array DictEntry} {ep : Nat}, s₁.heap.get? b = some o → o.data = .dict es ep → H b = none := fun {b o es ep} e d => by
      cases q : H b with
      | none => rfl
      | some u =>
        have e' : b = a := hA b (by rw [q]; simp)
        subst e'
        rw [ha] at e; cases e
        have d' : Data.seq vs.toArray _ = Data.dict es ep := d
        cases d'
    have nsK : ∀ {b : Addr} {m : Str → Option Value}, s₁.heap.Ns b m → (hidT s₁.heap H).Ns b m := fun {b m} ⟨o, es, ep, e, d, r⟩ => ⟨o, es, ep, base_of e (noA e d), d, r⟩
    have hKb : K.In (hidT s₁.heap H) := fun b o e => base_of (KX b o e) (by
      cases q : H b with
      | none => rfl
      | some u =>
        have e' : b = a := hA b (by rw [q]; simp)
        subst e'
        rw [hK (by rw [q]; simp)] at e; cases e)
    have hM : Mod K mg (hidT s₁.heap H) := ⟨hKb, nsK hns, ⟨mb, nsK hb, hbb⟩, let ⟨mc, h1, h2⟩ := hlim; ⟨mc, nsK h1, h2⟩⟩
    have e0 : Env0 P w K mg (hidT s₁.heap H) callerA [] s₁ H := ⟨rfl, hM, fun b o e => of_hidT e, Nat.le_of_eq (hidT_size _ _), trivial, fun b hb => absurd (show b ∈ ([] : List Addr) from hb) (by simp), hok, .of_eq hg⟩
    refine codeAny_mono ((F _ hKb (nsK hns)).run callerA [] s₁ H ⟨[.ref a], []⟩ [.ref a] [.ref a] _ _ hr e0 (hbind s₁ (.ref a)) (.cons rfl .nil) (hsp H hO hS)) fun r s' h => ?_
    cases r with
    | error e => exact (hCX H e s' h).elim
    | ok fl =>
      cases fl with
      | next => exact False.elim h
      | brk => exact False.elim h
      | cont => exact False.elim h
      | ret u =>
        obtain ⟨v, H', os, bare, un, hok', r', q⟩ := h
        have q' : v = .bl true := q
        subst q'
        obtain rfl : u = Value.bool true := r'
        refine ⟨rfl, OldK.of_keep fun b o e => ?_, os, bare⟩
        cases q : H b with
        | none => exact un.keep b o e q (by intro z; exact absurd (show b ∈ ([] : List Addr) from z) (by simp)) (by simp)
        | some u =>
          rcases hO b with z | ⟨ob, xs, z⟩
          · rw [q] at z; cases z
          · have z2 := un.frzs b ob _ z
            obtain ⟨e1, _⟩ := hok b _ z
            obtain ⟨e2, _⟩ := hok' b _ z2
            rw [e] at e1; cases e1
            exact e2
  cases hk : K.lookup a with
  | some o =>
    -- the script is one of the module's own objects
    have e := KX a o hk
    rw [ha] at e
    cases e
    refine core (fun _ => none) (fun _ => .inl rfl) (.inr ⟨_, vs.toArray, _, hk, rfl, rfl, rfl, by rw [List.size_toArray, lenV]; exact hl, by simpa using rv⟩) (fun b u z => by have z' : (none : Option HO) = some u := z; cases z') (fun b z => absurd rfl z) fun z => absurd rfl z
  | none =>
    refine core (fun b => if b = a then some (.frz { cls := .type "list", data := .seq vs.toArray } (.lst (ns.map V.int))) else none) (fun b => ?_) (.inl (.inr ⟨{ cls := .type "list", data := .seq vs.toArray }, if_pos rfl⟩)) (fun b u z => ?_) (fun b z => ?_) fun _ => hk
    · by_cases hb : b = a
      · exact .inr ⟨_, _, if_pos hb⟩
      · exact .inl (if_neg hb)
    · by_cases hb : b = a
      · have z' := (if_pos hb).symm.trans z
        cases z'
        subst hb
        exact ⟨ha, by rw [List.length_map]; exact hl, vs, _, rv, ha⟩
      · have z' := (if_neg hb).symm.trans z
        cases z'
    · by_cases hb : b = a
      · exact hb
      · exact absurd (if_neg hb) z
end L2

namespace L2
open PySem PySem.Spec PyProof.Rows

abbrev KOf {K : PySem.W.Frag} {h : Heap} (_ : K.In h) : PySem.W.Frag := K

/-- the goal that k_head leaves (case hc), from the law's promise. F gives the function object fd (K's own) once, then the promise over every base -/
theorem walk_of {l : PySem.W.OpenLaw} {n k : Nat} {q : Program} {loose : List Str} {XP : (Str → Option Value) → Heap → Prop} {YP : World → Heap → Prop} {d : DefRec} {K : Params → PySem.W.Frag} {CX : World → CXT} {sp : World → Sp} {x : Str}
    (hn : l.most = some n) (hn2 : n ≤ sizeLine) (hdf : d.params.defaults = []) (hr : Room k callerA)
    (hY : ∀ (w : World) (h : Heap), YP w h → (K w.params).In h)
    (F : ∀ (w : World) (mg : Str → Option Value) (fa : Addr) (h : Heap), (K w.params).In h → h.Ns mainGlobals mg → mg d.name = some (.ref fa) →
      ∃ fd : FuncData, (∀ (s : Shared) (u : Value), BindsTo s fd ⟨[u], []⟩ [(x, u)]) ∧
        ∀ base : Heap, (K w.params).In base → base.Ns mainGlobals mg → FnOk l.prog w (K w.params) mg base (CX w) k fa fd [x] (sp w))
    (hsp : ∀ (w : World) (H : Hp) (a : Addr) (ns : List Int), ns.length ≤ n → Only H → SqL (K w.params) H a (ns.map V.int) → sp w [.ref a] H (fun v _ => v = .bl true) fun _ _ _ => False)
    (hCX : ∀ (w : World) (H : Hp) (s : Shared) (e : Value) (s' : Shared), CX w [] H s (fun _ _ _ => False) e s' → False) :
    PySem.W.WalkO q loose XP YP l.row.toRowW d [] (fun f vs => PySem.call f vs) := by
  refine Att.attach_call hn hdf fun w s₀ s₁ mg mb fa o pm cd doc a vs ns G Y ho hd hcd hmg hobj hints hlen hg => ?_
  have KX := hY w _ Y
  obtain ⟨fd, hb, hF⟩ := F w mg fa _ KX G.T.g hmg
  exact law_call KX G.T.g G.T.b G.T.builtins G.T.nolimit hg hobj hints (Nat.le_trans hlen hn2) hr hF hb (fun H hO hS => hsp w H a ns hlen hO hS) fun H e s' => hCX w H s₁ e s'
end L2

/- THE LAST THEOREM (shape; LID, My.* are yours):
   My.Adr: a structure of the addresses that your layer names (classes, functions); My.Txt K t: a structure (Prop) of the equations over K;
   My.txt_mk : {K} {implicit addresses ..} (e1 : nsIn K mainGlobals "law" = some (some (.ref f))) (e2 : K.lookup f = some ⟨oc, od, .func (fnOf "law" "law" params body scope dV kV doc pm an cdv ct), sl⟩) (e3 : codeIn K cdv "law" = true) .. : ∃ t, My.Txt K t

set_option maxRecDepth 100000 in
set_option maxHeartbeats 0 in
theorem PySem.Challenge.cw_LID_holds : PySem.Challenge.rw_LID.Holds := by
  w_on; o_law; k_head; (case hw => w_witness2)
  k_fill
  refine L2.walk_of (l := PySem.Challenge.rw_LID) (n := 63) (k := 40) (x := "script") (CX := fun w => ..) (sp := fun _ => My.sp_law) rfl (by decide) rfl ⟨rfl, by decide, by decide⟩ (fun w h Y => PySem.W.kIn_of Y) ?F ?S ?C
  case F =>
    intro w mg fa h KX G hmg
    have T : ∃ t, My.Txt (L2.KOf KX) t := by
      dsimp only [L2.KOf]                          -- K must stand as «<heap const> w.params» for k_is
      refine' My.txt_mk ?e1 ?e2 ?e3 ..
      (case e1 => PySem.W.k_is)                    -- in the order: a name -> its address -> its object -> its parts
      (case e2 => PySem.W.k_is)
      ..
    obtain ⟨t, T⟩ := T
    have e0 := hmg.symm.trans (PySem.W.mg_of KX G T.law)
    cases e0                                       -- fa is the law's own address
    exact ⟨_, fun s u => .of_eq rfl, fun base kb nb => My.law_fn T kb nb⟩     -- if «.of_eq rfl» comes too early: refine' ⟨_, ?b, fun base kb nb => My.law_fn T kb nb⟩; exact fun s u => .of_eq rfl
  case S => exact fun w H a ns hl hO hS => ..
  case C => exact ..
(the tactic k_is has no namespace: write k_is) -/

/-! SHORT WORDS over the layer: a def of the text, its body, what a loop and a test want. -/
namespace L2
open PySem PySem.Spec PyProof.Rows

/-! ### the text by places -/
def defArgs (s : Stmt) : Arguments := match s with
  | .FunctionDef _ a _ _ _ _ _ _ _ _ => a
  | _ => { posonlyargs := [], args := [], vararg := none, kwonlyargs := [], kw_defaults := [], kwarg := none, defaults := [] }
def defBody (s : Stmt) : List Stmt := match s with
  | .FunctionDef _ _ b _ _ _ _ _ _ _ => b
  | _ => []
def defScope (s : Stmt) : Scope := match s with
  | .FunctionDef _ _ _ _ _ _ sc _ _ _ => sc
  | _ => { kind := .function, names := [], isGenerator := false, isCoroutine := false }

/-! ### no exception leaves a def -/
abbrev CX0 : CXT := fun _ _ _ _ _ _ => False
abbrev E0 : XK := fun _ _ _ => False
theorem pass0 {X : Cx} : Passes CX0 X E0 := fun _ _ _ _ _ _ _ h => h.elim

/-! ### a def (or method) of the text as it stands behind the top -/
structure Fun (K : PySem.W.Frag) (x qual : Str) (st : Stmt) (f : Addr) (fd : FuncData) : Prop where
  ex : ∃ (oc : Value) (od : Option Addr) (kV doc pm : Value) (an : Option Addr) (cdv ct : Value) (osl : Array (Option Value)),
    fd = PySem.W.fnOf x qual (defArgs st) (defBody st) (defScope st) .none kV doc pm an cdv ct ∧ K.lookup f = some ⟨oc, od, .func fd, osl⟩ ∧ PySem.W.codeIn K cdv qual = true
  kp : PySem.W.keepIn K (.ref f) = true
section
variable {P : Program} {w : World} {K : PySem.W.Frag} {mg : Str → Option Value} {base : Heap}
/-- THE RULE for a def: its body as a term of rules, and the reading of that term -/
theorem Fun.ok {x qual : Str} {st : Stmt} {f : Addr} {fd : FuncData} {N ps : List Str} {k : Nat} {sp : Sp} (F : Fun K x qual st f fd) (S : FnScope N ps (defScope st)) (len : ∀ vs H Q E, sp vs H Q E → vs.length = ps.length)
    (hbody : ∀ (cdv : Value) (A : Around) (outer : List Env) (s : Shared) (H : Hp) (vs : List V) (Q : VK) (E : XK), Room k (A.deeper (envOfC qual (defScope st) s.heap.objs.size f cdv)) → sp vs H Q E →
      ∃ t, PSs (cxOf CX0 P w K mg base N qual (defScope st) f cdv A outer s H E).nox (defBody st) t ∧ t { nx := fun _ H' => Q .non H', rt := Q } (start N vs) H) : FnOk P w K mg base CX0 (k + 1) f fd ps sp := by
  obtain ⟨oc, od, kV, doc, pm, an, cdv, ct, osl, rfl, lk, hcd⟩ := F.ex
  refine fn_of lk hcd S len fun A outer s H vs Q E hr hsp => ?_
  obtain ⟨t, h, q⟩ := hbody cdv A outer s H vs Q E hr hsp
  exact ⟨t, h.nox, q⟩
/-- how its arguments bind (no defaults): h is «fun _ _ _ _ _ _ us hl => match us, hl with | [_, _], _ => rfl», one _ a parameter -/
theorem Fun.binds {x qual : Str} {st : Stmt} {f : Addr} {fd : FuncData} {ps : List Str} (F : Fun K x qual st f fd)
    (h : ∀ (kV doc pm : Value) (an : Option Addr) (cdv ct : Value) (us : List Value), us.length = ps.length → bindArgs (PySem.W.fnOf x qual (defArgs st) (defBody st) (defScope st) .none kV doc pm an cdv ct) ⟨us, []⟩ = pure (ps.zip us)) : Binds K fd ps [] := by
  obtain ⟨oc, od, kV, doc, pm, an, cdv, ct, osl, rfl, lk, hcd⟩ := F.ex
  exact .all (h kV doc pm an cdv ct)
theorem fun_mk {x qual : Str} {st : Stmt} {f : Addr} {oc : Value} {od an : Option Addr} {osl : Array (Option Value)} {kV doc pm cdv ct : Value} (l : K.lookup f = some ⟨oc, od, .func (PySem.W.fnOf x qual (defArgs st) (defBody st) (defScope st) .none kV doc pm an cdv ct), osl⟩)
    (c : PySem.W.codeIn K cdv qual = true) (k : PySem.W.keepIn K (.ref f) = true) : Fun K x qual st f (PySem.W.fnOf x qual (defArgs st) (defBody st) (defScope st) .none kV doc pm an cdv ct) := ⟨⟨oc, od, kV, doc, pm, an, cdv, ct, osl, rfl, l, c⟩, k⟩
end
theorem small1000 {n : Nat} (h : n ≤ 1000) : n < sizeLine := Nat.lt_of_le_of_lt h (by decide)

/-! ### expressions in short: the name that stands in the i-th slot -/
section
variable {X : Cx}
theorem pv (i : Nat) {x : Str} {pos : Pos} (hN : X.N[i]? = some x := by rfl) (hv : Vis X.env.scope x := by first | exact Or.inl rfl | exact Or.inr (Or.inl rfl) | exact Or.inr (Or.inr rfl)) (hd : (x == ("__debug__" : Str)) = false := by decide)
    (hcd : (x == ("__classdict__" : Str)) = false := by decide) : PE X (.Name x pos) (tVar i) := pe_var hN hv hd hcd
end

/-! ### tests -/
theorem iteF {A B : Prop} (h : B) : if false = true then A else B := by
  rw [if_neg Bool.false_ne_true]
  exact h
theorem iteT {A B : Prop} (h : A) : if true = true then A else B := by
  rw [if_pos rfl]
  exact h
/-! ### heaps -/
/-- all that was tracked is as it was -/
def Same (H H' : Hp) : Prop := ∀ b o, H b = some o → H' b = some o
theorem Same.refl (H : Hp) : Same H H := fun _ _ h => h
theorem Same.trans {H H1 H2 : Hp} (a : Same H H1) (b : Same H1 H2) : Same H H2 := fun c o h => b c o (a c o h)
theorem Same.free {H H' : Hp} (e : Same H H') {l : Addr} (h : H' l = Option.none) : H l = Option.none := by
  cases q : H l with
  | none => rfl
  | some o =>
    rw [e l o q] at h
    cases h
theorem Same.seq {K : PySem.W.Frag} {H H' : Hp} {a : Addr} {xs : List V} (e : Same H H') (h : SqL K H a xs) : SqL K H' a xs := by
  rcases h with (h | ⟨o, h⟩) | h
  · exact .inl (.inl (e _ _ h))
  · exact .inl (.inr ⟨o, e _ _ h⟩)
  · exact .inr h

end L2
namespace L2
open PySem PySem.Spec PyProof.Rows
section
variable {X : Cx}
end
/-! ### a dict's pairs: keys that differ -/
section
variable {κ : Type} [DecidableEq κ]
end
end L2
/-! More of the hand layer: comprehensions. -/
namespace L2
open PySem PySem.Spec PyProof.Rows
theorem adr_ne {a b n : Nat} (h1 : a < n) (h2 : n ≤ b) : a ≠ b := Nat.ne_of_lt (Nat.lt_of_lt_of_le h1 h2)
theorem adr_en {a b n : Nat} (h1 : a < n) (h2 : n ≤ b) : b ≠ a := Ne.symm (adr_ne h1 h2)
/-! ### tracked or not: an object that is younger than the entry -/
section
variable {X : Cx} {pins : List (Addr × Obj)} {σ : St} {H : Hp} {s : Shared}
theorem Inv.track {D : Addr} {o : HO} (I : Inv X pins σ H s) (hn : H D = none) (h0 : X.s₀.heap.objs.size ≤ D) (hL : D ≠ X.env.locals) (hc : ∀ x c, X.env.cells.lookup x = some c → c ≠ D)
    (hp : ∀ p ∈ X.pn ++ pins, p.1 ≠ D) (new : ObjOk X.prog X.w (upd H D o) s.heap D o) : Inv X pins σ (upd H D o) s := by
  have nD : ∀ b u, H b = some u → b ≠ D := fun b u e z => by rw [z, hn] at e; cases e
  refine I.step (h' := s.heap) (g' := s.gens) (d' := s.drawn) (t' := s.toks) (ch := [D]) (fun b hb => ?_) (fun _ _ _ _ _ e _ => e) (fun _ o _ _ _ e _ => ⟨o.slots, e⟩)
    (fun b _ hb _ e => ?_) (fun _ o _ e => ⟨o, e⟩) (fun b xs e => ?_) (fun b q u e => ?_) (fun b ps e => ⟨#[], ?_⟩) (fun _ h => h) (fun b u e => ?_) I.bare
  · obtain rfl : b = D := by simpa using hb
    exact ⟨.inr h0, hL, hc, hp⟩
  · rw [upd_ne (by simpa using hb)]; exact e
  · rw [upd_ne (nD b _ e)]; exact e
  · rw [upd_ne (nD b _ e)]; exact e
  · rw [upd_ne (nD b _ e), e]; simp
  · by_cases c : b = D
    · subst c
      rw [upd_same] at e
      cases e
      exact new
    · rw [upd_ne c] at e
      exact (I.hok b u e).stay (fun _ _ _ q => q) (fun z q => by rw [upd_ne (nD z _ q)]; exact q) fun z xs q => by rw [upd_ne (nD z _ q)]; exact q
theorem Inv.untrack {D : Addr} {xs : List V} (I : Inv X pins σ (upd H D (.lst xs)) s) (hn : H D = none) : Inv X pins σ H s := by
  have nD : ∀ b u, H b = some u → b ≠ D := fun b u e z => by rw [z, hn] at e; cases e
  have up : ∀ b u, H b = some u → upd H D (.lst xs) b = some u := fun b u e => by rw [upd_ne (nD b u e)]; exact e
  have dn : ∀ b u, upd H D (.lst xs) b = some u → (∀ ys, u ≠ .lst ys) → H b = some u := fun b u e k => by
    by_cases c : b = D
    · subst c
      rw [upd_same] at e
      exact absurd (Option.some.inj e).symm (k xs)
    · rw [upd_ne c] at e; exact e
  refine I.step (h' := s.heap) (g' := s.gens) (d' := s.drawn) (t' := s.toks) (ch := []) (fun _ z => nomatch z) (fun _ _ _ _ _ e _ => e) (fun _ o _ _ _ e _ => ⟨o.slots, e⟩)
    (fun b _ _ _ e => ?_) (fun _ o _ e => ⟨o, e⟩) (fun b ys e => dn b _ e (fun _ z => nomatch z)) (fun b q u e => dn b _ e (fun _ z => nomatch z)) (fun b ps e => ⟨#[], by rw [dn b _ e (fun _ z => nomatch z)]; simp⟩) (fun _ h => h) (fun b u e => ?_) I.bare
  · by_cases c : b = D
    · subst c; exact hn
    · rw [upd_ne c] at e; exact e
  · exact (I.hok b u (up b u e)).stay (fun _ _ _ q => q) (fun z q => dn z _ q (fun _ y => nomatch y)) fun z ys q => dn z _ q (fun _ y => nomatch y)
end
/-! ### the tests -/
def PTs (X : Cx) (ifs : List Expr) (t : TT) : Prop :=
  ∀ (pins : List (Addr × Obj)) (s : Shared) (σ : St) (H : Hp) (Q : Bool → Hp → Prop), Inv X pins σ H s → t σ H Q →
    wpAny (model X.prog X.w) X.A (forIn ifs true fun c r => if r = true then do let ok ← isTrue c X.env (eval c X.env); pure (ForInStep.yield ok) else pure (ForInStep.yield r)) (TP X pins σ Q) X.xe s
def tTrue : TT := fun _ H Q => Q true H
theorem pts_nil {X : Cx} : PTs X [] tTrue := fun _ _ σ H _ I h => wpAny_tests_nil ⟨H, I, h⟩
/-! ### the loop -/
abbrev NoE : Value → Shared → Prop := fun _ _ => False
theorem comp_loop {prog : Program} {w : World} {A : Around} {R : Result → Shared → Prop} {s : Shared} {elt target iter : Expr} {ifs : List Expr} {scope : Scope} {pos : Pos} {it acc : Value} {env : Env} (J : Nat → Shared → Prop)
    (turn : ∀ n s, J n s → wpAny (model prog w) A (pyNext it) (fun r s1 => match r with
      | none => R (.ok .next) s1
      | some v => wpAny (model prog w) A (letOwnedTupleGo target it v) (fun _ s2 => wpAny (model prog w) A (assign target env v) (fun _ s3 =>
          wpAny (model prog w) A (forIn ifs true fun c r => if r = true then do let ok ← isTrue c env (eval c env); pure (ForInStep.yield ok) else pure (ForInStep.yield r)) (fun ok s4 =>
            if ok = true then wpAny (model prog w) A (eval elt env) (fun x s5 => wpAny (model prog w) A (call (.builtin "list.append") [acc, x]) (fun _ s6 => ∃ m, m < n ∧ J m s6) NoE s5) NoE s4
            else ∃ m, m < n ∧ J m s4) NoE s3) NoE s2) NoE s1) NoE s)
    (n : Nat) (h : J n s) : codeAny (model prog w) A (.compLoop (.ListComp elt [⟨target, iter, ifs, 0⟩] scope pos) 0 it acc env) R s := by
  refine codeAny_loop rfl J (fun n s hJ => ?_) n h
  show wpAny _ A ((compTurn (.ListComp elt [⟨target, iter, ifs, 0⟩] scope pos) 0 it acc env).onRaise (fun x => do noteFrame x env; theTreesLotGoes x)) _ _ s
  refine wpAny_noted ?_
  rw [compTurn_list]
  have out : ∀ (e : Value) (s' : Shared), NoE e s' → notedBy (model prog w) A env (fun x s'' => R (.error x) s'') e s' := fun _ _ f => f.elim
  refine wpAny_bind (wpAny_standAt (wpAny_bind (wpAny_mono (turn n s hJ) (fun r s1 h1 => ?_) out)))
  cases r with
  | none => exact wpAny_pure h1
  | some v =>
    refine wpAny_bind (wpAny_mono h1 (fun _ s2 h2 => ?_) out)
    refine wpAny_bind (wpAny_mono h2 (fun _ s3 h3 => ?_) out)
    refine wpAny_bind (wpAny_mono h3 (fun ok s4 h4 => ?_) out)
    cases ok with
    | false => exact wpAny_pure ⟨rfl, h4⟩
    | true =>
      refine wpAny_bind (wpAny_bind (wpAny_mono h4 (fun x s5 h5 => ?_) out))
      exact wpAny_bind (wpAny_mono h5 (fun _ s6 h6 => wpAny_pure (wpAny_pure ⟨rfl, h6⟩)) out)
/-! ### the block's context -/
/-- the cells that a block takes along -/
def closOf (env : Env) : List (Str × NameKind) → List (Str × Addr) → List (Str × Addr)
  | [], cs => cs
  | (n, k) :: r, cs => closOf env r (if k = .free then (n, (env.cells.lookup n).getD 0) :: cs else cs)
theorem closOf_eq {env : Env} : ∀ (names : List (Str × NameKind)) (cs : List (Str × Addr)), (∀ y ∈ names, y.2 = .free → ∃ c, env.cells.lookup y.1 = some c) →
    (forIn names cs fun (x : Str × NameKind) (r : List (Str × Addr)) => (match x with | (name, kind) => if (kind == NameKind.free) = true then do let a ← cellOf env name; pure (ForInStep.yield ((name, a) :: r)) else pure (ForInStep.yield r) : Sem (ForInStep (List (Str × Addr))))) = pure (closOf env names cs)
  | [], cs, _ => rfl
  | (n, k) :: r, cs, h => by
    rw [List.forIn_cons]
    have hr := closOf_eq (env := env) r
    by_cases c : k = .free
    · subst c
      obtain ⟨a, ha⟩ := h (n, .free) List.mem_cons_self rfl
      have e : cellOf env n = pure a := by unfold cellOf; rw [ha]
      simp only [beq_self_eq_true, if_true, e, pure_bind]
      rw [hr _ fun y hy => h y (List.mem_cons_of_mem _ hy)]
      conv => rhs; unfold closOf
      rw [if_pos rfl, ha]
      rfl
    · have e : (k == NameKind.free) = false := by simpa using c
      simp only [e, Bool.false_eq_true, if_false, pure_bind]
      rw [hr _ fun y hy => h y (List.mem_cons_of_mem _ hy)]
      conv => rhs; unfold closOf
      rw [if_neg c]
theorem clos_eq {scope : Scope} {env : Env} (h : ∀ y ∈ scope.names, y.2 = .free → ∃ c, env.cells.lookup y.1 = some c) : closureFor scope env = pure (closOf env scope.names []) := by
  have := closOf_eq (env := env) scope.names [] h
  unfold closureFor
  first
    | exact this
    | (simp only [bind_pure]; exact this)
    | (rw [show (forIn scope.names ([] : List (Str × Addr)) _ : Sem (List (Str × Addr))) = _ from this]; rfl)
theorem closOf_some {env : Env} (x : Str) : ∀ (names : List (Str × NameKind)) (cs : List (Str × Addr)), (∀ y ∈ names, y.2 = .free → ∃ c, env.cells.lookup y.1 = some c) →
    (∀ c, cs.lookup x = some c → env.cells.lookup x = some c) → ∀ c, (closOf env names cs).lookup x = some c → env.cells.lookup x = some c
  | [], _, _, h, c, e => h c e
  | (n, k) :: r, cs, hh, h, c, e => by
    unfold closOf at e
    refine closOf_some x r _ (fun y hy => hh y (List.mem_cons_of_mem _ hy)) (fun c' e' => ?_) c e
    by_cases hk : k = .free
    · rw [if_pos hk] at e'
      obtain ⟨a, ha⟩ := hh (n, k) List.mem_cons_self hk
      rw [ha] at e'
      rw [List.lookup_cons] at e'
      cases hx : x == n with
      | true =>
        rw [hx] at e'
        have : x = n := by simpa using hx
        subst this
        cases e'
        exact ha
      | false =>
        rw [hx] at e'
        exact h c' e'
    · rw [if_neg hk] at e'
      exact h c' e'
theorem closOf_has {env : Env} (x : Str) : ∀ (names : List (Str × NameKind)) (cs : List (Str × Addr)), ((x, NameKind.free) ∈ names ∨ ∃ c, cs.lookup x = some c) → ∃ c, (closOf env names cs).lookup x = some c
  | [], _, h => h.elim (fun z => nomatch z) id
  | (n, k) :: r, cs, h => by
    unfold closOf
    refine closOf_has x r _ ?_
    by_cases hk : k = .free
    · rw [if_pos hk]
      rcases h with h | ⟨c, h⟩
      · rcases List.mem_cons.mp h with z | z
        · cases z
          exact .inr ⟨(env.cells.lookup x).getD 0, by rw [List.lookup_cons]; simp⟩
        · exact .inl z
      · refine .inr ?_
        rw [List.lookup_cons]
        cases hx : x == n with
        | true => exact ⟨_, rfl⟩
        | false => exact ⟨c, h⟩
    · rw [if_neg hk]
      rcases h with h | h
      · rcases List.mem_cons.mp h with z | z
        · cases z
          exact absurd rfl hk
        · exact .inl z
      · exact .inr h
/-- what is asked of the text: sc, N the scope and the names around, scope, M the block's own (its targets, then what it takes along), ix where these stand in N -/
structure ScOk (sc : Scope) (N : List Str) (scope : Scope) (M : List Str) (ix : List (Option Nat)) : Prop where
  kind : scope.kind = .function
  nd : M.Nodup
  nocell : ∀ y ∈ scope.names, y.2 ≠ .cell
  loc : ∀ y ∈ scope.names, y.2 = .local → scope.names.lookup y.1 = some .local
  fre : ∀ y ∈ scope.names, y.2 = .free → sc.names.lookup y.1 = some .cell ∨ sc.names.lookup y.1 = some .free
  len : ix.length = M.length
  at_ : ∀ p ∈ M.zip ix, ∀ i ∈ p.2, N[i]? = some p.1 ∧ (sc.names.lookup p.1 = some .cell ∨ sc.names.lookup p.1 = some .free) ∧ scope.names.lookup p.1 = some .free
def cxComp (X : Cx) (scope : Scope) (C : Addr) (M : List Str) (s : Shared) (H : Hp) (fp : List Addr) : Cx :=
  { X with N := M, s₀ := s, H₀ := H, env := compEnvC scope (closOf X.env scope.names []) C X.env, outer := X.stack, stack := X.stack, ex := fp, fn := fun _ => false, pn := [], xe := NoE }
/-- the block's names at its start -/
def takeAt (σ : St) : Option Nat → Option V
  | none => none
  | some i => (σ[i]?).getD none
def compSt (σ : St) (ix : List (Option Nat)) : St := ix.map (takeAt σ)
theorem relabel_kind {scope : Scope} {env : Env} {x : Str} {k : NameKind} : ∀ {names : List (Str × NameKind)},
    (names.map fun (n, k) => if (k == NameKind.free && env.scope.kind == .function && env.kindOf n == some .cell) then (n, NameKind.cell) else (n, k)).lookup x = some k → (k = .cell ∨ k = .free) →
    (∀ y ∈ names, y.2 ≠ .cell) → (x, NameKind.free) ∈ names
  | [], h, _, _ => by simp at h
  | (n, k') :: r, h, hk, hc => by
    rw [List.map_cons, List.lookup_cons] at h
    by_cases c : (k' == NameKind.free && env.scope.kind == .function && env.kindOf n == some .cell) = true
    · dsimp only at h
      rw [if_pos c] at h
      dsimp only at h
      have hf : k' = .free := by
        rw [Bool.and_eq_true, Bool.and_eq_true] at c
        simpa using c.1.1
      subst hf
      cases hx : x == n with
      | true =>
        have : x = n := by simpa using hx
        subst this
        exact List.mem_cons_self
      | false =>
        rw [hx] at h
        exact List.mem_cons_of_mem _ (relabel_kind (scope := scope) h hk fun y hy => hc y (List.mem_cons_of_mem _ hy))
    · dsimp only at h
      rw [if_neg c] at h
      dsimp only at h
      cases hx : x == n with
      | true =>
        rw [hx] at h
        have : x = n := by simpa using hx
        subst this
        cases h
        rcases hk with z | z
        · exact absurd z (hc (x, k) List.mem_cons_self)
        · rw [z]; exact List.mem_cons_self
      | false =>
        rw [hx] at h
        exact List.mem_cons_of_mem _ (relabel_kind (scope := scope) h hk fun y hy => hc y (List.mem_cons_of_mem _ hy))
theorem relabel_look {env : Env} {x : Str} : ∀ {names : List (Str × NameKind)}, names.lookup x = some NameKind.free →
    (names.map fun (n, k) => if (k == NameKind.free && env.scope.kind == .function && env.kindOf n == some .cell) then (n, NameKind.cell) else (n, k)).lookup x = some .cell ∨
    (names.map fun (n, k) => if (k == NameKind.free && env.scope.kind == .function && env.kindOf n == some .cell) then (n, NameKind.cell) else (n, k)).lookup x = some .free
  | [], h => by simp at h
  | (n, k') :: r, h => by
    rw [List.map_cons, List.lookup_cons]
    rw [List.lookup_cons] at h
    dsimp only at h ⊢
    by_cases c : (k' == NameKind.free && env.scope.kind == .function && env.kindOf n == some .cell) = true
    · rw [if_pos c]
      dsimp only
      cases hx : x == n with
      | true => exact .inl rfl
      | false =>
        rw [hx] at h
        exact relabel_look h
    · rw [if_neg c]
      dsimp only
      cases hx : x == n with
      | true =>
        rw [hx] at h
        exact .inr h
      | false =>
        rw [hx] at h
        exact relabel_look h
/-! ### the block's start -/
section
variable {X : Cx} {pins : List (Addr × Obj)} {σ : St} {H : Hp} {s : Shared}
theorem cells_of {sc : Scope} {scope : Scope} {M : List Str} {ix : List (Option Nat)} (ok : ScOk sc X.N scope M ix) (hsc : X.env.scope = sc) (I : Inv X pins σ H s) : ∀ y ∈ scope.names, y.2 = .free → ∃ c, X.env.cells.lookup y.1 = some c := fun y hy hf => by
  refine I.ok.has y.1 ?_
  have := ok.fre y hy hf
  rw [← hsc] at this
  exact this
theorem inv_comp {sc : Scope} {scope : Scope} {M : List Str} {ix : List (Option Nat)} {C : Addr} {fp : List Addr} {h' : Heap} {t' : Nat} (ok : ScOk sc X.N scope M ix) (hsc : X.env.scope = sc) (I : Inv X pins σ H s) (hf : ∀ b ∈ fp, FpOk X pins H b)
    (hC : s.heap.objs.size ≤ C) (hN : ∃ m, h'.Ns C m) (hk : ∀ b o, s.heap.get? b = some o → h'.get? b = some o) (hlt : ∀ b ∈ fp, b < s.heap.objs.size) :
    Inv (cxComp X scope C M s H fp) [] (compSt σ ix) H { s with heap := h', toks := t' } := by
  have cs := cells_of ok hsc I
  have cl : ∀ x c, (closOf X.env scope.names []).lookup x = some c → X.env.cells.lookup x = some c := fun x c e => closOf_some x scope.names [] cs (fun _ z => by simp at z) c e
  have stk : ∀ b, b ∈ frs X.stack → b ∈ X.env.locals :: X.fs := I.stkSub
  have nC : ∀ b o, s.heap.get? b = some o → b ≠ C := fun b o e => adr_ne (Heap.lt_size e) hC
  obtain ⟨m, hm⟩ := hN
  refine ⟨⟨I.ok.mod, ok.kind, I.ok.glob, I.ok.blt, hC, fun x y c h1 h2 => I.ok.inj x y c (cl x c h1) (cl y c h2), fun x hx => ?_, fun _ _ z => (nomatch z), I.ok.hd, I.ok.frames, .inl rfl, fun b hb => ⟨?_, fun x c e => (hf b hb).2.2.2.2.1 x c (cl x c e)⟩,
    fun b o e => I.bs b o e, Nat.le_trans I.ok.bsz I.sz, fun b o e hb => ?_, fun b hb z => ?_, I.stack, I.stkFree⟩, rfl, I.bare, Un.kept hk, ⟨m, hm, fun j x v e1 e2 e3 => ?_⟩, fun x c e => ?_, I.hok.fresh hC, fun x c e => I.freeC x c (cl x c e), fun p hp => ?_, I.hok.kept hk, ?_⟩
  · have hx : (relabel scope X.env).names.lookup x = some .cell ∨ (relabel scope X.env).names.lookup x = some .free := hx
    have mem : (x, NameKind.free) ∈ scope.names := by
      rcases hx with z | z
      · exact relabel_kind (scope := scope) z (.inl rfl) ok.nocell
      · exact relabel_kind (scope := scope) z (.inr rfl) ok.nocell
    exact closOf_has x scope.names [] (.inl mem)
  · exact adr_ne (hlt b hb) hC
  · have hb : b ∈ fp := hb
    rcases (hf b hb).2.2.2.1 with z | z
    · exact I.ok.noex b o e z
    · exact adr_ne (Nat.lt_of_lt_of_le (Heap.lt_size e) I.ok.bsz) z rfl
  · have hb : b ∈ fp := hb
    rcases List.mem_cons.mp (stk b z) with q | q
    · exact (hf b hb).2.1 q
    · exact (hf b hb).2.2.1 q
  · have e1 : M[j]? = some x := e1
    have e2 : (ix.map (takeAt σ))[j]? = some (some v) := e2
    rw [List.getElem?_map] at e2
    cases ei : ix[j]? with
    | none => rw [ei] at e2; cases e2
    | some o =>
      rw [ei] at e2
      have e2 : takeAt σ o = some v := Option.some.inj e2
      cases o with
      | none => cases e2
      | some i =>
        have hz : (x, some i) ∈ M.zip ix := by
          refine List.mem_iff_getElem?.mpr ⟨j, ?_⟩
          rw [List.getElem?_zip_eq_some]
          exact ⟨e1, ei⟩
        obtain ⟨h1, h2, h3⟩ := ok.at_ _ hz i rfl
        have hσ : σ[i]? = some (some v) := by
          have e2 : (σ[i]?).getD none = some v := e2
          cases q : σ[i]? with
          | none => rw [q] at e2; cases e2
          | some r => rw [q] at e2; rw [show r = some v from e2]
        obtain ⟨m0, _, hl⟩ := I.loc
        have hv : Vis X.env.scope x := by
          rw [hsc]
          exact .inr h2
        obtain ⟨u, r, lk⟩ := hl i x v h1 hσ hv
        refine ⟨u, r, .inr ⟨relabel_look h3, ?_⟩⟩
        rcases lk with ⟨k, _⟩ | ⟨k, c, ec, cell⟩
        · have k : X.env.scope.names.lookup x = some .local := k
          rw [hsc] at k
          rcases h2 with z | z <;> (rw [k] at z; cases z)
        · obtain ⟨c', ec'⟩ := closOf_has (env := X.env) x scope.names [] (.inl (PySem.mem_of_lookup h3))
          have := cl x c' ec'
          rw [ec] at this
          cases this
          obtain ⟨oc, q1, q2⟩ := cell
          exact ⟨c, ec', oc, hk c oc q1, q2⟩
  · obtain ⟨v, oc, q1, q2⟩ := I.cell x c (cl x c e)
    exact ⟨v, oc, hk c oc q1, q2⟩
  · exact absurd (show p ∈ ([] : List (Addr × Obj)) from hp) (by simp)
  · show (ix.map (takeAt σ)).length = M.length
    rw [List.length_map, ok.len]
end
/-! ### the block -/
/-- W: the turn, a measure, what is gathered, the block's names, the heap -/
def tCompW (g : TG) (tc : TT) (te : TE) (J : It) (σ0 : St) (H1 : Hp) (Q : VK) : Prop :=
  ∃ W : Nat → Nat → List V → St → Hp → Prop, (∃ m, W 0 m [] σ0 H1) ∧ ∀ i m acc σ H, W i m acc σ H →
    (J.stop i H ∧ ∀ p, H p = none → Q (.ref p) (upd H p (.lst acc))) ∨
    (J.go i H ∧ acc.length < sizeLine ∧ ∀ x H', J.yld i H x H' → g x σ H' fun σ2 H2 => tc σ2 H2 fun b H3 =>
      if b = true then te σ2 H3 fun y H4 => ∃ m', m' < m ∧ W (i + 1) m' (acc ++ [y]) σ2 H4 else ∃ m', m' < m ∧ W (i + 1) m' acc σ2 H3)
def tComp (ix : List (Option Nat)) (wi : TI) (g : TG) (tc : TT) (te : TE) : TE := fun σ H Q => wi σ H fun J H1 => tCompW g tc te J (compSt σ ix) H1 Q
/-- the list as it stands, for a pin -/
abbrev lob (its : List Value) (k : Nat) : Obj := { cls := .type "list", data := .seq its.toArray k }
section
variable {X : Cx} {pins : List (Addr × Obj)} {σ : St} {H : Hp} {s : Shared}
theorem comp_block {sc : Scope} {scope : Scope} {M : List Str} {ix : List (Option Nat)} {elt tg iter : Expr} {ifs : List Expr} {pos : Pos} {it : Addr} {fp : List Addr} {tn : Nat → Heap → Prop} {J : It} {g : TG} {tc : TT} {te : TE} {Q : VK}
    {E : Value → Shared → Prop} {RR : Value → Addr → Result → Shared → Prop} (ok : ScOk sc X.N scope M ix) (hsc : X.env.scope = sc) (hcm : X.calm = true) (I : Inv X pins σ H s) (T : Turn X.prog X.w X.K tg J fp it tn) (st : tn 0 s.heap)
    (f2 : ∀ b ∈ fp, FpOk X pins H b) (hb : ∀ C, PG (cxComp X scope C M s H fp) tg g ∧ PTs (cxComp X scope C M s H fp) ifs tc ∧ PE (cxComp X scope C M s H fp) elt te) (w : tCompW g tc te J (compSt σ ix) H Q)
    (fin : ∀ (D C : Addr) (s' : Shared) (H' : Hp) (acc : List V), (∃ m, s'.heap.Ns C m) → Inv X pins σ (upd H' D (.lst acc)) s' → upd H' D (.lst acc) C = none → C ≠ X.env.locals → (∀ x c, X.env.cells.lookup x = some c → c ≠ C) →
      (∀ (σ1 : St) (H1 : Hp) (s1 : Shared) (h1 : Heap), Inv X pins σ1 H1 s1 → H1 C = none → Heap.SameBut C s1.heap h1 → Inv X pins σ1 H1 { s1 with heap := h1 }) → Q (.ref D) (upd H' D (.lst acc)) → RR (.ref D) C (.ok .next) s') :
    wpAny (model X.prog X.w) X.A (newList []) (fun acc s3 => wpAny (model X.prog X.w) X.A (newFunctionEnv scope X.env.globals (closOf X.env scope.names []) [] X.env.qual none .none (some X.env)) (fun cenv s4 =>
      codeAny (model X.prog X.w) X.A (.compStart (.ListComp elt [⟨tg, iter, ifs, 0⟩] scope pos) 0 (.ref it) acc { cenv with scope := relabel scope X.env }) (RR acc cenv.locals) s4) E s3) E s := by
  obtain ⟨W, ⟨m0, w0⟩, turn⟩ := w
  refine wpAny_newObj_type (wpAny_newFunctionEnv ok.nocell (by intro y hy; simp at hy) (fun h1 hns hsb => ?_) ok.kind)
  dsimp only at hns hsb ⊢
  generalize hH2 : s.heap.push { cls := .type "list", dict := none, data := .seq ([] : List Value).toArray } = h2 at hns hsb ⊢
  have zC : h2.objs.size = s.heap.objs.size + 1 := by rw [← hH2, Heap.size_push]
  have hCD : h2.objs.size ≠ s.heap.objs.size := by rw [zC]; exact Nat.succ_ne_self _
  have hCge : s.heap.objs.size ≤ h2.objs.size := by rw [zC]; exact Nat.le_succ _
  have old : ∀ b o, s.heap.get? b = some o → h1.get? b = some o := fun b o e => by
    exact hsb.extBut b o (adr_ne (Heap.lt_size e) hCge) (Heap.get?_push_of_some _ (hH2 ▸ Heap.get?_push_of_some _ e))
  have hD1 : h1.get? s.heap.objs.size = some (lob [] 0) := hsb.extBut _ _ (Ne.symm hCD) (Heap.get?_push_of_some _ (hH2 ▸ Heap.get?_push_size _ rfl))
  have flt : ∀ b ∈ fp, b < s.heap.objs.size := fun b hb => by
    obtain ⟨o, e, _⟩ := T.obj _ _ st b hb
    exact Heap.lt_size e
  have cs := cells_of ok hsc I
  have cl : ∀ x c, (closOf X.env scope.names []).lookup x = some c → X.env.cells.lookup x = some c := fun x c e => closOf_some x scope.names [] cs (fun _ z => by simp at z) c e
  have clt : ∀ x c, X.env.cells.lookup x = some c → c < s.heap.objs.size := fun x c e => by
    obtain ⟨v, o, q, _⟩ := I.cell x c e
    exact Heap.lt_size q
  have nfs : ∀ a, s.heap.objs.size ≤ a → a ∉ frs X.stack := fun a ha z => by
    rcases List.mem_cons.mp (I.stkSub a z) with q | q
    · exact adr_en I.lt ha q
    · exact I.nofs ha q
  have I1 : Inv (cxComp X scope h2.objs.size M s H fp) [] (compSt σ ix) H { s with heap := h1, toks := s.toks + ([] : List (Str × Value)).length } := inv_comp ok hsc I f2 hCge ⟨_, hns⟩ old flt
  have st1 : tn 0 h1 := T.keep _ _ _ st fun b _ o e => old b o e
  -- what stays true of the iterator's records
  have fpk : ∀ {H' : Hp} {ps : List (Addr × Obj)}, (∀ b ∈ fp, H' b = none) → (∀ p ∈ ps, p.1 = s.heap.objs.size) → ∀ b ∈ fp, FpOk (cxComp X scope h2.objs.size M s H fp) ps H' b := fun {H' ps} hn hp b hb =>
    ⟨hn b hb, adr_ne (flt b hb) hCge, fun z => by
      rcases List.mem_cons.mp (I.stkSub b z) with q | q
      · exact (f2 b hb).2.1 q
      · exact (f2 b hb).2.2.1 q, .inl hb, fun x c e => (f2 b hb).2.2.2.2.1 x c (cl x c e), fun p hp' => by
      have q := hp p (by simpa [cxComp] using hp')
      rw [q]
      exact adr_en (flt b hb) (Nat.le_refl _)⟩
  have pinD : ∀ {σ' : St} {H' : Hp} {s' : Shared} {its : List Value} {k : Nat}, Inv (cxComp X scope h2.objs.size M s H fp) [] σ' H' s' → s'.heap.get? s.heap.objs.size = some (lob its k) → H' s.heap.objs.size = none →
      Inv (cxComp X scope h2.objs.size M s H fp) [(s.heap.objs.size, lob its k)] σ' H' s' := fun {σ' H' s' its k} I' e n => I'.pins_of fun p hp => by
    obtain rfl : p = (s.heap.objs.size, lob its k) := by simpa using hp
    exact ⟨e, n, Ne.symm hCD, nfs _ (Nat.le_refl _), fun v z => nomatch z⟩
  have loop : ∀ s5 : Shared, s5 = { s with heap := h1, toks := s.toks + ([] : List (Str × Value)).length } →
      codeAny (model X.prog X.w) X.A (.compLoop (.ListComp elt [⟨tg, iter, ifs, 0⟩] scope pos) 0 (.ref it) (.ref s.heap.objs.size) (compEnvC scope (closOf X.env scope.names []) h2.objs.size X.env)) (RR (.ref s.heap.objs.size) h2.objs.size) s5 := by
    rintro s5 rfl
    refine comp_loop (fun n s' => ∃ i acc σ' H' its k, Inv (cxComp X scope h2.objs.size M s H fp) [] σ' H' s' ∧ tn i s'.heap ∧ (∀ b ∈ fp, H' b = none) ∧ W i n acc σ' H' ∧ s'.heap.get? s.heap.objs.size = some (lob its k) ∧ Vals acc its ∧
      H' s.heap.objs.size = none ∧ acc.length ≤ sizeLine) ?_ m0 ⟨0, [], compSt σ ix, H, [], 0, I1, st1, fun b hb => (f2 b hb).1, w0, hD1, .nil, I.fresh, Nat.zero_le _⟩
    rintro n s3 ⟨i, acc, σ3, H3, its, k, I3, st3, fr3, w3, hD3, rv3, nD3, z3⟩
    have I3' := pinD I3 hD3 nD3
    have fk3 := fpk (ps := [(s.heap.objs.size, lob its k)]) fr3 (fun p hp => by rw [List.mem_singleton.mp hp])
    rcases turn i n acc σ3 H3 w3 with ⟨stop, qf⟩ | ⟨go, zl, step⟩
    · refine thn (T.done (cxComp X scope h2.objs.size M s H fp) rfl rfl rfl hcm i _ s3 σ3 H3 NoE I3' fk3 st3 stop) fun r s4 ⟨hr, I4⟩ => ?_
      subst hr
      obtain ⟨e4, n4, _⟩ := I4.pin (s.heap.objs.size, lob its k) (by simp [cxComp])
      have nD : ∀ b u, H3 b = some u → b ≠ s.heap.objs.size := fun b u e z => by rw [z, nD3] at e; cases e
      have u0 : Un (frs X.stack) fp H H3 s.heap s4.heap := I4.base
      have J1 : Inv X pins σ (upd H3 s.heap.objs.size (.lst acc)) s4 := by
        refine I.call' (ch := fp) I4.os ⟨u0.keep, u0.slot, fun b o e nb hx => ?_, u0.there, fun b xs e => ?_, fun b o u e => ?_, fun b ps e => ?_⟩ (fun b u e => ?_) I4.bare fun b hb => ⟨(f2 b hb).2.2.2.1, (f2 b hb).2.1, (f2 b hb).2.2.2.2.1, (f2 b hb).2.2.2.2.2⟩
        · rw [upd_ne (adr_ne (Heap.lt_size e) (Nat.le_refl _))]
          exact u0.free b o e nb hx
        · have q := u0.tups b xs e
          rw [upd_ne (nD b _ q)]; exact q
        · have q := u0.frzs b o u e
          rw [upd_ne (nD b _ q)]; exact q
        · obtain ⟨more, q⟩ := u0.tbls b ps e
          exact ⟨more, by rw [upd_ne (nD b _ q)]; exact q⟩
        · by_cases c : b = s.heap.objs.size
          · subst c
            rw [upd_same] at e
            cases e
            exact ⟨z3, its, k, rv3, e4⟩
          · rw [upd_ne c] at e
            exact (I4.hok b u e).stay (fun _ _ _ q => q) (fun z q => by rw [upd_ne (nD z _ q)]; exact q) fun z xs q => by rw [upd_ne (nD z _ q)]; exact q
      obtain ⟨m4, hm4, _⟩ := I4.loc
      have fC : H3 h2.objs.size = none := I4.free
      refine fin s.heap.objs.size h2.objs.size s4 H3 acc ⟨m4, hm4⟩ J1 (by rw [upd_ne hCD]; exact fC) (adr_en I.lt hCge) (fun x c e => adr_ne (clt x c e) hCge) (fun σ1 H1 s1 h' K1 n1 sb => ?_) (qf _ nD3)
      exact K1.turned (t' := s1.toks) (it := h2.objs.size) (fun b o hb e => sb.extBut b o hb e) n1 (adr_en I.lt hCge) (.inr (Nat.le_trans I.sz hCge)) (fun x c e => adr_ne (clt x c e) hCge) fun p hp => by
        obtain ⟨e, _⟩ := I.pin p hp
        exact adr_ne (Heap.lt_size e) hCge
    · refine thn (T.item (cxComp X scope h2.objs.size M s H fp) rfl rfl rfl hcm i _ s3 σ3 H3 NoE I3' fk3 st3 go) fun r s4 ⟨u, hr, h4⟩ => ?_
      subst hr
      refine thn h4 fun _ s5 ⟨x, H5, I5, r5, y5, st5, fr5⟩ => ?_
      have I5' := I5.pinned (fpk (ps := [(s.heap.objs.size, lob its k)]) fr5 (fun p hp => by rw [List.mem_singleton.mp hp])) (T.obj _ _ st5)
      obtain ⟨hg, hc, he⟩ := hb h2.objs.size
      refine thn (hg _ s5 σ3 H5 x u _ I5' r5 (step x H5 y5)) fun _ s6 ⟨σ6, H6, I6, q6⟩ => ?_
      refine thn (hc _ s6 σ6 H6 _ I6 q6) fun b s7 ⟨H7, I7, q7⟩ => ?_
      -- the next turn's state
      have next : ∀ {acc' : List V} {its' : List Value} {k' : Nat} {H8 : Hp} {s8 : Shared}, Inv (cxComp X scope h2.objs.size M s H fp) (pinsAt fp s5.heap) σ6 H8 s8 → s8.heap.get? s.heap.objs.size = some (lob its' k') → Vals acc' its' → H8 s.heap.objs.size = none →
          acc'.length ≤ sizeLine → (∃ m', m' < n ∧ W (i + 1) m' acc' σ6 H8) → ∃ m, m < n ∧ ∃ i acc σ' H' its k, Inv (cxComp X scope h2.objs.size M s H fp) [] σ' H' s8 ∧ tn i s8.heap ∧ (∀ b ∈ fp, H' b = none) ∧ W i m acc σ' H' ∧
          s8.heap.get? s.heap.objs.size = some (lob its k) ∧ Vals acc its ∧ H' s.heap.objs.size = none ∧ acc.length ≤ sizeLine := fun {acc' its' k' H8 s8} I8 hD8 rv8 nD8 z8 ⟨m', hm', w8⟩ => by
        refine ⟨m', hm', i + 1, acc', σ6, H8, its', k', I8.pins_of (fun p hp => nomatch hp), T.keep _ _ _ st5 fun b hb o e => (I8.pin (b, o) (List.mem_append_right _ (mem_pinsAt hb e))).1, fun b hb => ?_, w8, hD8, rv8, nD8, z8⟩
        obtain ⟨o, e, _⟩ := T.obj _ _ st5 b hb
        exact (I8.pin (b, o) (List.mem_append_right _ (mem_pinsAt hb e))).2.1
      have drop : ∀ {σ' : St} {H' : Hp} {s' : Shared}, Inv (cxComp X scope h2.objs.size M s H fp) ([(s.heap.objs.size, lob its k)] ++ pinsAt fp s5.heap) σ' H' s' → Inv (cxComp X scope h2.objs.size M s H fp) (pinsAt fp s5.heap) σ' H' s' := fun I' =>
        I'.pins_of fun p hp => I'.pin p (List.mem_append_right _ (List.mem_append_right _ hp))
      cases b with
      | false =>
        obtain ⟨e7, n7, _⟩ := I7.pin (s.heap.objs.size, lob its k) (by simp [cxComp])
        exact next (drop I7) e7 rv3 n7 z3 q7
      | true =>
        refine thn (he _ s7 σ6 H7 _ I7 q7) fun v s8 ⟨y, H8, I8, r8, q8⟩ => ?_
        obtain ⟨e8, n8, _⟩ := I8.pin (s.heap.objs.size, lob its k) (by simp [cxComp])
        have I8' := (drop I8).track (D := s.heap.objs.size) (o := .lst acc) n8 (Nat.le_refl _) (Ne.symm hCD) (fun x c e => adr_ne (clt x c (cl x c e)) (Nat.le_refl _)) (fun p hp => by
          have hp : p ∈ pinsAt fp s5.heap := hp
          exact adr_ne (flt p.1 (of_pinsAt hp).1) (Nat.le_refl _)) ⟨z3, its, k, rv3, e8⟩
        refine thn (mt_append (X := cxComp X scope h2.objs.size M s H fp) _ s8 σ6 _ (.ref s.heap.objs.size) [y] (.ref s.heap.objs.size) [v] (fun _ H9 => H9 = upd H8 s.heap.objs.size (.lst (acc ++ [y]))) I8' rfl (.cons r8 .nil) ⟨s.heap.objs.size, acc, y, rfl, rfl, upd_same, zl, upd_upd⟩) fun _ s9 ⟨_, H9, I9, _, e9⟩ => ?_
        subst e9
        obtain ⟨z9, its9, k9, rv9, hD9⟩ := (show ObjOk X.prog X.w (upd H8 s.heap.objs.size (.lst (acc ++ [y]))) s9.heap s.heap.objs.size (.lst (acc ++ [y])) from I9.hok _ _ upd_same)
        exact next (I9.untrack n8) hD9 rv9 n8 z9 q8
  exact codeAny_compStart_list (loop _ rfl) (T.self X.A 0 _ _ _ st1 (loop _ rfl))
end
section
variable {X : Cx} {sc : Scope} {scope : Scope} {elt tg iter : Expr} {ifs : List Expr} {pos : Pos} {wi : TI} {g : TG} {tc : TT} {te : TE}
/-- a list comprehension of one clause -/
theorem pe_comp (N : List Str) (M : List Str) (ix : List (Option Nat)) (ok : ScOk sc N scope M ix) (hsc : X.env.scope = sc) (hN : X.N = N) (hcm : X.calm = true) (hi : PI X tg iter wi)
    (hb : ∀ C s H fp, (cxComp X scope C M s H fp).N.Nodup → PG (cxComp X scope C M s H fp) tg g ∧ PTs (cxComp X scope C M s H fp) ifs tc ∧ PE (cxComp X scope C M s H fp) elt te) (hs : ∀ x, foldedSetIterable iter X.env x = pure x := by intro _; rfl) :
    PE X (.ListComp elt [⟨tg, iter, ifs, 0⟩] scope pos) (tComp ix wi g tc te) := by
  subst hN
  intro pins s σ H Q I h
  rw [eval_ListComp]
  refine wpAny_comprehension_free (use := none) rfl hs (clos_eq (cells_of ok hsc I)) ok.kind ok.loc (thn (hi pins s σ H _ I h) fun v s1 h1 => thn h1 fun itv s2 h2 => ?_)
  obtain ⟨it, fp, tn, J, H2, e, I2, T, st2, f2, w2⟩ := h2
  subst e
  refine comp_block (RR := fun acc C => compPost (model X.prog X.w) X.A X.xe none (EP X pins σ Q) acc C) ok hsc hcm I2 T st2 f2 (fun C => hb C s2 H2 fp ok.nd) w2 fun D C s' H' acc ⟨m, hm⟩ J1 nC _ _ lg q => ?_
  exact ⟨m, hm, fun h' sb => ⟨.ref D, _, lg _ _ _ _ J1 nC sb, rfl, q⟩⟩
/-- name = a list comprehension -/
theorem ps_setC {i : Nat} {y : Str} {py spos : Pos} (hN : X.N.Nodup) (hi' : X.N[i]? = some y) (hy : Loc X.env.scope y) (N : List Str) (M : List Str) (ix : List (Option Nat)) (ok : ScOk sc N scope M ix) (hsc : X.env.scope = sc) (hN' : X.N = N) (hcm : X.calm = true) (hi : PI X tg iter wi)
    (hb : ∀ C s H fp, (cxComp X scope C M s H fp).N.Nodup → PG (cxComp X scope C M s H fp) tg g ∧ PTs (cxComp X scope C M s H fp) ifs tc ∧ PE (cxComp X scope C M s H fp) elt te)
    (hsw : swapsWith (.ListComp elt [⟨tg, iter, ifs, 0⟩] scope pos) (some (.Name y py)) spos.line X.env = pure true := by rfl) (hs : ∀ x, foldedSetIterable iter X.env x = pure x := by intro _; rfl)
    (hf : X.fn y = true ∨ X.env.scope.names.lookup y = some .local := by first | exact .inl rfl | exact .inr rfl | assumption) :
    PS X (.Assign [.Name y py] (.ListComp elt [⟨tg, iter, ifs, 0⟩] scope pos) spos) (fun D σ H => tComp ix wi g tc te σ H fun v H1 => D.nx (σ.set i (some v)) H1) := by
  subst hN'
  intro pins s σ H D I h
  rw [exec_Assign_Name_used _ _ _ _ hsw]
  refine wpAny_bind (wpAny_standAt (wpAny_bind ?_))
  show wpAny _ X.A (do let _ ← comprehension (.ListComp elt [⟨tg, iter, ifs, 0⟩] scope pos) scope X.env _ (newList []) false (eval iter X.env) (some (assign (.Name y py) X.env))) _ _ s
  refine wpAny_bind (wpAny_mono (wpAny_comprehension_free (use := some (assign (.Name y py) X.env)) (Q := fun _ s' => SP X pins D .next s') rfl hs (clos_eq (cells_of ok hsc I)) ok.kind ok.loc
    (thn (hi pins s σ H _ I h) fun v s1 h1 => thn h1 fun itv s2 h2 => ?_)) (fun _ s' hq => wpAny_pure (wpAny_pure hq)) fun _ _ e => e)
  obtain ⟨it, fp, tn, J, H2, e, I2, T, st2, f2, w2⟩ := h2
  subst e
  refine comp_block (RR := fun acc C => compPost (model X.prog X.w) X.A X.xe (some (assign (.Name y py) X.env)) (fun _ s' => SP X pins D .next s') acc C) ok hsc hcm I2 T st2 f2 (fun C => hb C s2 H2 fp ok.nd) w2 fun Da C s' H' acc ⟨m, hm⟩ J1 nC neL neC lg q => ?_
  show wpAny _ X.A (assign (.Name y py) X.env (.ref Da)) _ _ _
  refine wpAny_assign_Name (store_ok2 J1 hN hi' hy (v := .ref Da) rfl (fun s'' I'' ⟨a, sb, ha⟩ => ?_) hf)
  have hCa : C ≠ a := by
    rcases ha with z | z
    · rw [z]; exact neL
    · exact Ne.symm (neC y a z)
  exact ⟨m, hm.sameBut sb hCa, fun h' sb' => ⟨σ.set i (some (.ref Da)), _, lg _ _ _ _ I'' nC sb', q⟩⟩
end
end L2
/-! More of the hand layer: isinstance, lists of numbers compared, sum, all, any, sorted. -/
namespace L2
open PySem PySem.Spec PyProof.Rows
section
variable {X : Cx}
/-! ### isinstance(x, c) -/
def rIsi (K : PySem.W.Frag) : List V → Hp → VK → Prop := fun xs H Q => ∃ x c t cv b, xs = [x, c] ∧ TyOf K H x t ∧ ((∃ n, c = .ty n ∧ cv = .type n) ∨ (∃ a, c = .ref a ∧ cv = .ref a)) ∧ PySem.W.kitOne K t cv = some b ∧ Q (.bl b) H
theorem call_isi : CallR X (.builtin "isinstance") (rIsi X.K) := by
  intro pins s σ H xs us Q I r h
  obtain ⟨x, c, t, cv, b, rfl, ty, hc, e, q⟩ := h
  obtain ⟨u, w', rfl, ru, rc⟩ := vals2 r
  have hw : w' = cv := by
    rcases hc with ⟨n, rfl, rfl⟩ | ⟨a, rfl, rfl⟩
    · exact rc
    · exact rc
  subst hw
  exact isinst_ok I ru ty e fun tk => ⟨.bl b, H, I.tok tk, rfl, q⟩
/-! ### == and != of two lists of numbers -/
theorem vint_get {ns : List Int} {its : List Value} (r : Vals (ns.map V.int) its) {j : Nat} (h : j < its.length) : ∃ (hj : j < ns.length), RelV (.int ns[j]) its[j] := by
  have hl := r.length
  rw [List.length_map] at hl
  have hj : j < ns.length := by omega
  obtain ⟨u, e, q⟩ := r.get (i := j) (x := .int ns[j]) (by rw [List.getElem?_map, List.getElem?_eq_getElem hj]; rfl)
  rw [List.getElem?_eq_getElem h] at e
  cases e
  exact ⟨hj, q⟩
theorem all_same {ns ms : List Int} (h : ns.length = ms.length) : ((List.range ns.length).all fun j => decide (ns[j]? = ms[j]?)) = decide (ns = ms) := by
  by_cases e : ns = ms
  · subst e
    rw [decide_eq_true rfl]
    simp
  · rw [decide_eq_false e]
    refine Bool.eq_false_iff.mpr fun c => e ?_
    rw [List.all_eq_true] at c
    refine List.ext_getElem? fun j => ?_
    by_cases hj : j < ns.length
    · exact of_decide_eq_true (c j (List.mem_range.mpr hj))
    · rw [List.getElem?_eq_none (by omega), List.getElem?_eq_none (by omega)]
theorem eqAt_ints {A : Around} {s : Shared} {ns ms : List Int} {its its2 : List Value} (r1 : Vals (ns.map V.int) its) (r2 : Vals (ms.map V.int) its2) (j : Nat) (h1 : j < its.toArray.size) (h2 : j < its2.toArray.size) :
    SeqAt.EqAt A s its.toArray[j] its2.toArray[j] (decide (ns[j]? = ms[j]?)) := by
  have g1 : j < its.length := by simpa using h1
  have g2 : j < its2.length := by simpa using h2
  obtain ⟨k1, q1⟩ := vint_get r1 g1
  obtain ⟨k2, q2⟩ := vint_get r2 g2
  have e := eqAt_V (A := A) (s := s) q1 q2 rfl rfl
  have d : eqV (.int ns[j]) (.int ms[j]) = decide (ns[j]? = ms[j]?) := by
    rw [List.getElem?_eq_getElem k1, List.getElem?_eq_getElem k2]
    show (ns[j] == ms[j]) = _
    by_cases c : ns[j] = ms[j]
    · rw [c]; simp
    · rw [decide_eq_false (fun z => c (Option.some.inj z))]
      exact beq_eq_false_iff_ne.mpr c
  rw [d] at e
  simpa using e
def rEqL (K : PySem.W.Frag) (neg : Bool) : R2 := fun x y H Q => ∃ (a b : Addr) (ns ms : List Int), x = .ref a ∧ y = .ref b ∧ SqL K H a (ns.map V.int) ∧ SqL K H b (ms.map V.int) ∧ Q (.bl (if neg then !decide (ns = ms) else decide (ns = ms))) H
theorem len_ne {ns ms : List Int} {its its2 : List Value} (r1 : Vals (ns.map V.int) its) (r2 : Vals (ms.map V.int) its2) (h : ¬ ns.length = ms.length) : (its.toArray.size != its2.toArray.size) = true ∧ decide (ns = ms) = false := by
  have l1 := r1.length
  have l2 := r2.length
  rw [List.length_map] at l1 l2
  refine ⟨?_, decide_eq_false fun e => h (by rw [e])⟩
  rw [bne_iff_ne, List.size_toArray, List.size_toArray]
  omega
theorem op_neL (hu : X.A.units < cLine) : OpR X (compareOp .NotEq) (rEqL X.K true) := by
  intro pins s σ H x y v u Q I rx ry h
  obtain ⟨a, b, ns, ms, rfl, rfl, h1, h2, q⟩ := h
  cases rx
  cases ry
  obtain ⟨its, r1, p1, _⟩ := I.list h1
  obtain ⟨its2, r2, p2, _⟩ := I.list h2
  by_cases hl : ns.length = ms.length
  · have l1 := r1.length
    have l2 := r2.length
    rw [List.length_map] at l1 l2
    refine (SeqAt.RcNeAt.lists p1.isList p2.isList (by simp only [List.size_toArray]; omega) hu (eqAt_ints r1 r2)) X.prog X.w X.xe _ ?_
    rw [List.size_toArray, ← l1, all_same hl]
    exact ⟨.bl (!decide (ns = ms)), H, I, rfl, q⟩
  · obtain ⟨c1, c2⟩ := len_ne r1 r2 hl
    refine (SeqAt.RcNeAt.lists_lengths p1.isList p2.isList c1 hu) X.prog X.w X.xe _ ⟨.bl true, H, I, rfl, ?_⟩
    have q : Q (.bl (!decide (ns = ms))) H := q
    rw [c2] at q
    exact q
/-! ### sum -/
def rSum (K : PySem.W.Frag) : List V → Hp → VK → Prop := fun xs H Q => ∃ (a : Addr) (ns : List Int), xs = [.ref a] ∧ SqL K H a (ns.map V.int) ∧ Q (.int ns.sum) H
theorem call_sum (hcm : X.calm = true) : CallR X (.builtin "sum") (rSum X.K) := by
  intro pins s σ H xs us Q I r h
  obtain ⟨a, ns, rfl, h1, q⟩ := h
  obtain ⟨u, rfl, ru⟩ := vals1 r
  cases ru
  obtain ⟨its, r1, p1, _⟩ := I.list h1
  have hi : IntsAre its ns := intsAre_of r1
  obtain ⟨ys, hy⟩ := hi.allInts.items
  have hL := p1.isList
  rw [hy] at hL
  refine sum_intListG (I.ok.hd hcm) hL fun h' tk t' hk => ⟨.int ns.sum, H, I.kept hk, ⟨t', ?_⟩, q⟩
  have e1 := nums_intItems ys
  rw [← hy] at e1
  have e2 := hi.numsOf
  rw [preSum_eq, List.take_of_length_le (by simp), ← e1]
  show Value.int (numsOf its).sum t' = _
  rw [e2]
/-! ### all, any of a list of bools -/
def rAll (K : PySem.W.Frag) : List V → Hp → VK → Prop := fun xs H Q => ∃ (a : Addr) (bs : List Bool), xs = [.ref a] ∧ SqL K H a (bs.map V.bl) ∧ Q (.bl (bs.all id)) H
def rAny (K : PySem.W.Frag) : List V → Hp → VK → Prop := fun xs H Q => ∃ (a : Addr) (bs : List Bool), xs = [.ref a] ∧ SqL K H a (bs.map V.bl) ∧ Q (.bl (bs.any id)) H
theorem range_at {bs : List Bool} : (List.range bs.length).map (fun i => bs.getD i false) = bs := by
  refine List.ext_getElem? fun j => ?_
  rw [List.getElem?_map]
  by_cases h : j < bs.length
  · rw [List.getElem?_range h, List.getElem?_eq_getElem h]
    simp [h]
  · rw [List.getElem?_eq_none (by simpa using h), List.getElem?_eq_none (by omega)]
    rfl
theorem truth_bls {prog : Program} {w : World} {A : Around} {bs : List Bool} {its : List Value} (r : Vals (bs.map V.bl) its) : TruthOf prog w A (fun i v => its.toArray[i]? = some v) (fun i => bs.getD i false) := by
  intro i v s Q E hv hq
  have hv : its[i]? = some v := by simpa using hv
  have hlt : i < bs.length := by
    have h1 := (List.getElem?_eq_some_iff.mp hv).1
    have h2 := r.length
    rw [List.length_map] at h2
    omega
  obtain ⟨u, e, ru⟩ := r.get (i := i) (x := .bl bs[i]) (by rw [List.getElem?_map, List.getElem?_eq_getElem hlt]; rfl)
  rw [hv] at e
  cases e
  cases (show v = Value.bool bs[i] from ru)
  refine wpAny_truthy_bool ?_
  have : bs.getD i false = bs[i] := by simp [hlt]
  rw [← this]
  exact hq
theorem call_all (hcm : X.calm = true) : CallR X (.builtin "all") (rAll X.K) := by
  intro pins s σ H xs us Q I r h
  obtain ⟨a, bs, rfl, h1, q⟩ := h
  obtain ⟨u, rfl, ru⟩ := vals1 r
  cases ru
  obtain ⟨its, r1, p1, _⟩ := I.list h1
  have hl := r1.length
  rw [List.length_map] at hl
  have hlt : a < s.heap.objs.size := by
    obtain ⟨o, n, e, _⟩ := p1
    exact Heap.lt_size e
  refine call_all_walk (wpAny_pyIter_list p1.isList ?_)
  refine ⟨s.heap.objs.size, _, _, _, _, _, (fun i => bs.getD i false), rfl, Walks.list (A := X.A.in1) (I.ok.hd hcm) s.heap.objs.size a (Nat.ne_of_lt hlt) its.toArray,
    ⟨⟨_, Heap.get?_push_size _ rfl, rfl, rfl⟩, p1.isList.at fun o e => Heap.get?_push_of_some _ e⟩, truth_bls r1, fun h' tk hk => ?_⟩
  have e : ((List.range its.toArray.size).all fun i => bs.getD i false) = bs.all id := by
    rw [List.size_toArray, ← hl]
    conv => rhs; rw [← range_at (bs := bs)]
    rw [List.all_map]
    rfl
  rw [e]
  refine ⟨.bl (bs.all id), H, I.kept (t' := tk) (fun b o q => hk b o (fun z => ?_) (Heap.get?_push_of_some _ q)), rfl, q⟩
  exact adr_ne (Heap.lt_size q) (Nat.le_refl _) (by simpa using z)
theorem call_any (hcm : X.calm = true) : CallR X (.builtin "any") (rAny X.K) := by
  intro pins s σ H xs us Q I r h
  obtain ⟨a, bs, rfl, h1, q⟩ := h
  obtain ⟨u, rfl, ru⟩ := vals1 r
  cases ru
  obtain ⟨its, r1, p1, _⟩ := I.list h1
  have hl := r1.length
  rw [List.length_map] at hl
  have hlt : a < s.heap.objs.size := by
    obtain ⟨o, n, e, _⟩ := p1
    exact Heap.lt_size e
  refine call_any_walk (wpAny_pyIter_list p1.isList ?_)
  refine ⟨s.heap.objs.size, _, _, _, _, _, (fun i => bs.getD i false), rfl, Walks.list (A := X.A.in1) (I.ok.hd hcm) s.heap.objs.size a (Nat.ne_of_lt hlt) its.toArray,
    ⟨⟨_, Heap.get?_push_size _ rfl, rfl, rfl⟩, p1.isList.at fun o e => Heap.get?_push_of_some _ e⟩, truth_bls r1, fun h' tk hk => ?_⟩
  have e : ((List.range its.toArray.size).any fun i => bs.getD i false) = bs.any id := by
    rw [List.size_toArray, ← hl]
    conv => rhs; rw [← range_at (bs := bs)]
    rw [List.any_map]
    rfl
  rw [e]
  refine ⟨.bl (bs.any id), H, I.kept (t' := tk) (fun b o q => hk b o (fun z => ?_) (Heap.get?_push_of_some _ q)), rfl, q⟩
  exact adr_ne (Heap.lt_size q) (Nat.le_refl _) (by simpa using z)
/-! ### sorted -/
end
end L2
/-! More of the hand layer: enumerate. -/
namespace L2
open PySem PySem.Spec PyProof.Rows
section
variable {X : Cx} {elts : List Expr} {x1 : Nat} {tp : Pos}
end
/-! ### the forms one uses -/
/-! ### comprehensions: G what is gathered of the first i items, Sg what holds of the block's names and the heap -/
def CNx (n : Nat) (G : Nat → List V) (Sg : Nat → St → Hp → Prop) (i : Nat) (acc : List V) (σ : St) (H : Hp) : Prop := ∃ m, m < n - i ∧ m = n - (i + 1) ∧ i + 1 ≤ n ∧ acc = G (i + 1) ∧ Sg (i + 1) σ H
theorem cnx {n : Nat} {G : Nat → List V} {Sg : Nat → St → Hp → Prop} {i : Nat} {acc : List V} {σ : St} {H : Hp} (h : i < n) (e : acc = G (i + 1)) (q : Sg (i + 1) σ H) : CNx n G Sg i acc σ H := ⟨n - (i + 1), by omega, rfl, h, e, q⟩
section
variable {K : PySem.W.Frag} {a : Addr} {c : Nat} {xs : List V} {g : TG} {tc : TT} {te : TE} {σ0 : St} {H0 : Hp} {Q : VK} {n : Nat} {lo : Int}
theorem comp_list (G : Nat → List V) (Sg : Nat → St → Hp → Prop) (hz : xs.length ≤ sizeLine) (hG : ∀ i, i ≤ xs.length → (G i).length ≤ i) (g0 : G 0 = []) (s0 : Sg 0 σ0 H0) (hl : ∀ i σ H, Sg i σ H → SqL K H a xs)
    (hs : ∀ i x σ H, xs[i]? = some x → i < xs.length → Sg i σ H → g x σ H fun σ2 H2 => tc σ2 H2 fun b H3 => if b = true then te σ2 H3 fun y H4 => CNx xs.length G Sg i (G i ++ [y]) σ2 H4 else CNx xs.length G Sg i (G i) σ2 H3)
    (fin : ∀ σ H p, Sg xs.length σ H → H p = none → Q (.ref p) (upd H p (.lst (G xs.length)))) : tCompW g tc te (Itl K a) σ0 H0 Q := by
  refine ⟨fun i m acc σ H' => m = xs.length - i ∧ i ≤ xs.length ∧ acc = G i ∧ Sg i σ H', ⟨xs.length, by simp, Nat.zero_le _, g0.symm, s0⟩, ?_⟩
  rintro i m acc σ H ⟨rfl, hi, rfl, hS⟩
  have q := hl i σ H hS
  by_cases hlt : i < xs.length
  · refine .inr ⟨⟨xs, xs[i], q, by simp [hlt]⟩, by have := hG i hi; omega, fun x H1 y => ?_⟩
    obtain ⟨e, y⟩ := y
    subst e
    exact hs i x σ _ (y xs q) hlt hS
  · have e : i = xs.length := by omega
    subst e
    exact .inl ⟨⟨xs, q, Nat.le_refl _⟩, fun p hp => fin σ H p hS hp⟩
end
end L2
/-! enumerate(xs, start = c) -/
namespace L2
open PySem PyProof.Rows
open PySem.AutoSeq1 (wpAny_loadPart')
section
variable {X : Cx} {elts : List Expr} {x1 : Nat} {tp : Pos}
end
end L2
namespace Pk
/-! ### steps -/
def it (nx : Nat → Nat) : Nat → Nat → Nat
  | 0, w => w
  | k + 1, w => it nx k (nx w)
theorem it_succ (nx : Nat → Nat) : ∀ (k w : Nat), it nx (k + 1) w = nx (it nx k w)
  | 0, _ => rfl
  | k + 1, w => by
    show it nx (k + 1) (nx w) = nx (it nx k (nx w))
    exact it_succ nx k (nx w)
theorem it_add (nx : Nat → Nat) : ∀ (j k w : Nat), it nx (j + k) w = it nx j (it nx k w)
  | 0, k, w => by rw [Nat.zero_add]; rfl
  | j + 1, k, w => by
    rw [show j + 1 + k = (j + k) + 1 by omega, it_succ, it_succ, it_add nx j k w]
/-- m steps from w on lies the first that is not held -/
structure Fst (nx : Nat → Nat) (D : Nat → Option Nat) (w m : Nat) : Prop where
  out : D (it nx m w) = none
  ins : ∀ j, j < m → (D (it nx j w)).isSome = true
/-- each one that is held points on, past held ones alone -/
def Good (nx : Nat → Nat) (D : Nat → Option Nat) : Prop :=
  ∀ p n, D p = some n → ∃ k, 1 ≤ k ∧ n = it nx k p ∧ ∀ j, j < k → (D (it nx j p)).isSome = true
theorem Good.none {nx : Nat → Nat} : Good nx (fun _ => none) := fun _ _ h => by cases h
theorem Fst.within {nx : Nat → Nat} {D : Nat → Option Nat} {w m a k : Nat} (F : Fst nx D w m) (ha : a ≤ m) (h : ∀ j, j < k → (D (it nx j (it nx a w))).isSome = true) : a + k ≤ m := by
  apply Nat.le_of_not_lt
  intro hlt
  have h1 := h (m - a) (by omega)
  rw [← it_add, show m - a + a = m by omega, F.out] at h1
  cases h1
/-- one turn of the search: p = the place, n = where it points, n' = where that one points (or n) -/
def put (D : Nat → Option Nat) (p n : Nat) : Nat → Option Nat := fun q => if q = p then some n else D q
theorem put_some {D : Nat → Option Nat} {p n : Nat} (h : (D p).isSome = true) (q : Nat) : (put D p n q).isSome = (D q).isSome := by
  unfold put
  by_cases e : q = p
  · rw [if_pos e, e, h]; rfl
  · rw [if_neg e]
theorem put_none {D : Nat → Option Nat} {p n : Nat} (h : (D p).isSome = true) (q : Nat) : put D p n q = none ↔ D q = none := by
  have := put_some (n := n) h q
  rw [← Option.isNone_iff_eq_none, ← Option.isNone_iff_eq_none]
  cases h1 : put D p n q <;> cases h2 : D q <;> simp [h1, h2] at this ⊢
theorem turn {nx : Nat → Nat} {D : Nat → Option Nat} {w m a p n : Nat} (G : Good nx D) (F : Fst nx D w m) (ha : a ≤ m) (hp : p = it nx a w) (hn : D p = some n) :
    ∃ a', a < a' ∧ a' ≤ m ∧ (D n).getD n = it nx a' w ∧ Good nx (put D p ((D n).getD n)) ∧ Fst nx (put D p ((D n).getD n)) w m ∧ ∀ q, put D p ((D n).getD n) q = none ↔ D q = none := by
  obtain ⟨k, hk, rfl, hh⟩ := G p n hn
  have hsome : (D p).isSome = true := by rw [hn]; rfl
  have main : ∃ k', k ≤ k' ∧ (D (it nx k p)).getD (it nx k p) = it nx k' p ∧ ∀ j, j < k' → (D (it nx j p)).isSome = true := by
    cases e : D (it nx k p) with
    | none => exact ⟨k, Nat.le_refl _, rfl, hh⟩
    | some n' =>
      obtain ⟨k2, hk2, rfl, hh2⟩ := G _ _ e
      refine ⟨k2 + k, by omega, (it_add nx k2 k p).symm, fun j hj => ?_⟩
      by_cases hjk : j < k
      · exact hh j hjk
      · have := hh2 (j - k) (by omega)
        rw [← it_add, show j - k + k = j by omega] at this
        exact this
  obtain ⟨k', hkk, e', hh'⟩ := main
  rw [e']
  subst hp
  have hle : a + k' ≤ m := F.within ha hh'
  refine ⟨k' + a, by omega, by omega, (it_add nx k' a w).symm, ?_, ?_, put_none hsome⟩
  · intro q v hq
    unfold put at hq
    by_cases e : q = it nx a w
    · rw [if_pos e] at hq
      cases hq
      subst e
      exact ⟨k', by omega, rfl, fun j hj => by rw [put_some hsome]; exact hh' j hj⟩
    · rw [if_neg e] at hq
      obtain ⟨k3, h1, h2, h3⟩ := G q v hq
      exact ⟨k3, h1, h2, fun j hj => by rw [put_some hsome]; exact h3 j hj⟩
  · refine ⟨(put_none hsome _).mpr F.out, fun j hj => ?_⟩
    rw [put_some hsome]
    exact F.ins j hj
/-- a place that was not held is now, and points to the next one -/
theorem Good.more {nx : Nat → Nat} {D : Nat → Option Nat} {p : Nat} (G : Good nx D) (h : D p = Option.none) : Good nx (put D p (nx p)) := by
  have mono : ∀ q, (D q).isSome = true → (put D p (nx p) q).isSome = true := fun q hq => by
    unfold put
    by_cases e : q = p
    · rw [if_pos e]; rfl
    · rw [if_neg e]; exact hq
  intro q v hq
  by_cases e : q = p
  · subst e
    unfold put at hq
    rw [if_pos rfl] at hq
    cases hq
    refine ⟨1, Nat.le_refl _, rfl, fun j hj => ?_⟩
    obtain rfl : j = 0 := by omega
    show (put D q (nx q) q).isSome = true
    unfold put
    rw [if_pos rfl]; rfl
  · unfold put at hq
    rw [if_neg e] at hq
    obtain ⟨k, h1, h2, h3⟩ := G q v hq
    exact ⟨k, h1, h2, fun j hj => mono _ (h3 j hj)⟩
theorem Fst.uniq {nx : Nat → Nat} {D : Nat → Option Nat} {w m m' : Nat} (a : Fst nx D w m) (b : Fst nx D w m') : m = m' := by
  rcases Nat.lt_trichotomy m m' with h | h | h
  · have := b.ins m h; rw [a.out] at this; cases this
  · exact h
  · have := a.ins m' h; rw [b.out] at this; cases this
end Pk
namespace Pk
/-! ### counting -/
theorem nodup_len : ∀ {A B : List Nat}, A.Nodup → (∀ x ∈ A, x ∈ B) → A.length ≤ B.length
  | [], _, _, _ => Nat.zero_le _
  | a :: A, B, hn, hs => by
    obtain ⟨h1, h2⟩ := List.nodup_cons.mp hn
    have hb : a ∈ B := hs a (List.mem_cons.mpr (.inl rfl))
    have := nodup_len (A := A) (B := B.erase a) h2 fun x hx => by
      have hxa : x ≠ a := fun e => h1 (e ▸ hx)
      exact (List.mem_erase_of_ne hxa).mpr (hs x (List.mem_cons.mpr (.inr hx)))
    rw [List.length_erase_of_mem hb] at this
    have : 0 < B.length := List.length_pos_of_mem hb
    simp only [List.length_cons]
    omega
theorem many {fs : List Nat} {p n : Nat} (h : ∀ q, p ≤ q → q < p + n → q ∈ fs) : n ≤ fs.countP (fun q => decide (p ≤ q)) := by
  have := nodup_len (A := List.range' p n) (B := fs.filter fun q => decide (p ≤ q)) List.nodup_range' fun x hx => by
    obtain ⟨h1, h2⟩ := List.mem_range'_1.mp hx
    exact List.mem_filter.mpr ⟨h x h1 (by omega), decide_eq_true h1⟩
  rw [List.length_range'] at this
  rw [List.countP_eq_length_filter]
  exact this
theorem few {fs : List Nat} {p n : Nat} (hn : fs.Nodup) (h : ∀ q ∈ fs, p ≤ q ∧ q < p + n) : fs.length ≤ n := by
  have := nodup_len (A := fs) (B := List.range' p n) hn fun x hx => List.mem_range'_1.mpr (h x hx)
  rw [List.length_range'] at this
  exact this
/-- the lowest from which on, up to hi, all are there -/
theorem lowest {fs : List Nat} {hi : Nat} : ∀ (n : Nat), (∀ q, n ≤ q → q < hi → q ∈ fs) → ∃ p, p ≤ n ∧ (∀ q, p ≤ q → q < hi → q ∈ fs) ∧ (p = 0 ∨ p - 1 ∉ fs)
  | 0, h => ⟨0, Nat.le_refl _, h, .inl rfl⟩
  | n + 1, h => by
    by_cases e : n ∈ fs
    · obtain ⟨p, h1, h2, h3⟩ := lowest n fun q hq hq' => by
        by_cases c : q = n
        · exact c ▸ e
        · exact h q (by omega) hq'
      exact ⟨p, by omega, h2, h3⟩
    · exact ⟨n + 1, Nat.le_refl _, h, .inr e⟩
/-! ### the first free place of a street of P places -/
structure IsFF (T : List Nat) (P w q : Nat) : Prop where
  le : w ≤ q
  mid : ∀ p, w ≤ p → p < q → p < P ∧ p ∈ T
  fin : q < P → q ∉ T
theorem IsFF.uniq {T : List Nat} {P w q r : Nat} (a : IsFF T P w q) (b : IsFF T P w r) : q = r := by
  rcases Nat.lt_trichotomy q r with h | h | h
  · obtain ⟨h1, h2⟩ := b.mid q a.le h
    exact absurd h2 (a.fin h1)
  · exact h
  · obtain ⟨h1, h2⟩ := a.mid r b.le h
    exact absurd h2 (b.fin h1)
def ffuel (T : List Nat) (P : Nat) : Nat → Nat → Nat
  | 0, w => w
  | k + 1, w => if w < P ∧ w ∈ T then ffuel T P k (w + 1) else w
def ff (T : List Nat) (P w : Nat) : Nat := ffuel T P (P - w) w
/-- where the cars stand: fs those that stand already -/
def whs (P : Nat) : List Nat → List Nat → List Nat
  | fs, [] => fs
  | fs, w :: ws => whs P (fs ++ [ff fs P w]) ws
abbrev wh (P : Nat) (ws : List Nat) : List Nat := whs P [] ws
/-- the wishes with where they stand -/
structure Run (P : Nat) (L : List (Nat × Nat)) : Prop where
  lt : ∀ x ∈ L, x.1 < P
  le : ∀ x ∈ L, x.1 ≤ x.2 ∧ x.2 ≤ P
  mid : ∀ x ∈ L, ∀ q, x.1 ≤ q → q < x.2 → q ∈ L.map (·.2)
  nd : ((L.map (·.2)).filter fun q => decide (q < P)).Nodup
theorem Run.nil {P : Nat} : Run P [] := ⟨fun _ h => (by cases h), fun _ h => (by cases h), fun _ h => (by cases h), List.nodup_nil⟩
theorem Run.snoc {P w q : Nat} {L : List (Nat × Nat)} (R : Run P L) (hw : w < P) (F : IsFF (L.map (·.2)) P w q) : Run P (L ++ [(w, q)]) := by
  have hq : q ≤ P := by
    apply Nat.le_of_not_lt
    intro c
    have := (F.mid P (Nat.le_of_lt hw) c).1
    omega
  refine ⟨fun x hx => ?_, fun x hx => ?_, fun x hx r h1 h2 => ?_, ?_⟩
  · rcases List.mem_append.mp hx with h | h
    · exact R.lt x h
    · rw [List.mem_singleton.mp h]; exact hw
  · rcases List.mem_append.mp hx with h | h
    · exact R.le x h
    · rw [List.mem_singleton.mp h]; exact ⟨F.le, hq⟩
  · rw [List.map_append]
    refine List.mem_append.mpr (.inl ?_)
    rcases List.mem_append.mp hx with h | h
    · exact R.mid x h r h1 h2
    · rw [List.mem_singleton.mp h] at h1 h2
      exact (F.mid r h1 h2).2
  · rw [List.map_append, List.filter_append]
    by_cases c : q < P
    · have e : (List.map (fun x : Nat × Nat => x.2) [(w, q)]).filter (fun q => decide (q < P)) = [q] := by simp [c]
      rw [e]
      refine List.nodup_append.mpr ⟨R.nd, by simp, fun a ha b hb => ?_⟩
      rw [List.mem_singleton.mp hb]
      intro e
      subst e
      exact F.fin c (List.mem_filter.mp ha).1
    · have e : (List.map (fun x : Nat × Nat => x.2) [(w, q)]).filter (fun q => decide (q < P)) = [] := by simp [c]
      rw [e, List.append_nil]
      exact R.nd
/-! ### a crowd -/
def cnt (ws : List Nat) (p : Nat) : Nat := ws.countP fun w => decide (p ≤ w)
theorem Run.low {P p hi : Nat} {L : List (Nat × Nat)} (R : Run P L) (h3 : p = 0 ∨ p - 1 ∉ L.map (·.2)) : ∀ x ∈ L, p ≤ x.2 → p ≤ x.1 := fun x hx h => by
  apply Nat.le_of_not_lt
  intro c
  rcases h3 with h3 | h3
  · omega
  · exact h3 (R.mid x hx (p - 1) (by omega) (by omega))
theorem Run.crowd {P : Nat} {L : List (Nat × Nat)} (R : Run P L) {c : Nat × Nat} (hc : c ∈ L) (ho : c.2 = P) : ∃ p ∈ L.map (·.1), P < p + cnt (L.map (·.1)) p := by
  obtain ⟨p, h1, h2, h3⟩ := lowest (fs := L.map (·.2)) (hi := P) c.1 fun q a b => R.mid c hc q a (by omega)
  have hp : p < P := Nat.lt_of_le_of_lt h1 (R.lt c hc)
  have low := R.low (hi := 0) h3
  refine ⟨p, ?_, ?_⟩
  · obtain ⟨x, hx, e⟩ := List.mem_map.mp (h2 p (Nat.le_refl _) hp)
    have e : x.2 = p := e
    have := low x hx (by omega)
    have := R.le x hx
    exact List.mem_map.mpr ⟨x, hx, show x.1 = p by omega⟩
  · have m := many (fs := L.map (·.2)) (p := p) (n := P + 1 - p) fun q a b => by
      by_cases e : q = P
      · exact List.mem_map.mpr ⟨c, hc, by rw [e]; exact ho⟩
      · exact h2 q a (by omega)
    have k : (L.map (·.2)).countP (fun q => decide (p ≤ q)) ≤ cnt (L.map (·.1)) p := by
      unfold cnt
      rw [List.countP_map, List.countP_map]
      refine List.countP_mono_left fun x hx h => ?_
      have h : p ≤ x.2 := of_decide_eq_true h
      exact decide_eq_true (low x hx h)
    omega
theorem Run.nocrowd {P p : Nat} {L : List (Nat × Nat)} (R : Run P L) (hp : p < P) (h : P < p + cnt (L.map (·.1)) p) : ∃ x ∈ L, x.2 = P := by
  apply Classical.byContradiction
  intro no
  have all : ∀ x ∈ L, x.2 < P := fun x hx => by
    have := (R.le x hx).2
    have : x.2 ≠ P := fun e => no ⟨x, hx, e⟩
    omega
  have k : cnt (L.map (·.1)) p ≤ ((L.map (·.2)).filter fun q => decide (q < P)).countP (fun q => decide (p ≤ q)) := by
    unfold cnt
    rw [List.filter_eq_self.mpr fun q hq => by
      obtain ⟨x, hx, e⟩ := List.mem_map.mp hq
      exact decide_eq_true (e ▸ all x hx)]
    rw [List.countP_map, List.countP_map]
    refine List.countP_mono_left fun x hx h => ?_
    have h : p ≤ x.1 := of_decide_eq_true h
    have := (R.le x hx).1
    exact decide_eq_true (show p ≤ x.2 by omega)
  have f := few (fs := ((L.map (·.2)).filter fun q => decide (q < P)).filter fun q => decide (p ≤ q)) (p := p) (n := P - p) (R.nd.filter _) fun q hq => by
    obtain ⟨a, b⟩ := List.mem_filter.mp hq
    have b := of_decide_eq_true b
    have a := of_decide_eq_true (List.mem_filter.mp a).2
    omega
  rw [← List.countP_eq_length_filter] at f
  omega
end Pk
namespace Pk
/-! ### a ring of N places -/
def nxr (N : Nat) (q : Nat) : Nat := (q + 1) % N
theorem it_ring {N : Nat} (hN : 0 < N) : ∀ (m w : Nat), w < N → it (nxr N) m w = (w + m) % N
  | 0, w, h => (Nat.mod_eq_of_lt h).symm
  | m + 1, w, h => by
    rw [it_succ, it_ring hN m w h]
    unfold nxr
    rw [Nat.add_mod, Nat.mod_mod, ← Nat.add_mod]
    rfl
structure IsRF (T : List Nat) (N w q : Nat) : Prop where
  ex : ∃ m, q = it (nxr N) m w ∧ ∀ j, j < m → it (nxr N) j w ∈ T
  fin : q ∉ T
theorem IsRF.uniq {T : List Nat} {N w q r : Nat} (a : IsRF T N w q) (b : IsRF T N w r) : q = r := by
  obtain ⟨m, rfl, hm⟩ := a.ex
  obtain ⟨k, rfl, hk⟩ := b.ex
  rcases Nat.lt_trichotomy m k with h | h | h
  · exact absurd (hk m h) a.fin
  · rw [h]
  · exact absurd (hm k h) b.fin
/-- a free place lies ahead -/
theorem ahead {T : List Nat} {N w : Nat} (hT : T.length < N) (hw : w < N) : ∃ m, m < N ∧ it (nxr N) m w ∉ T ∧ ∀ j, j < m → it (nxr N) j w ∈ T := by
  have hN : 0 < N := by omega
  have some : ∃ m, m < N ∧ it (nxr N) m w ∉ T := by
    apply Classical.byContradiction
    intro no
    have := nodup_len (A := List.range N) (B := T) List.nodup_range fun q hq => by
      have hq := List.mem_range.mp hq
      apply Classical.byContradiction
      intro nq
      refine no ⟨(q + N - w) % N, Nat.mod_lt _ hN, ?_⟩
      rw [it_ring hN _ _ hw, Nat.add_mod, Nat.mod_mod, ← Nat.add_mod, show w + (q + N - w) = q + N by omega, Nat.add_mod_right, Nat.mod_eq_of_lt hq]
      exact nq
    rw [List.length_range] at this
    omega
  obtain ⟨m, hm, hn⟩ := some
  have least : ∀ n, it (nxr N) n w ∉ T → ∃ m, m ≤ n ∧ it (nxr N) m w ∉ T ∧ ∀ j, j < m → it (nxr N) j w ∈ T := fun n => by
    induction n using Nat.strongRecOn with
    | ind n ih =>
      intro hn
      by_cases c : ∃ j, j < n ∧ it (nxr N) j w ∉ T
      · obtain ⟨j, hj, hj2⟩ := c
        obtain ⟨m, h1, h2, h3⟩ := ih j hj hj2
        exact ⟨m, by omega, h2, h3⟩
      · exact ⟨n, Nat.le_refl _, hn, fun j hj => Classical.byContradiction fun z => c ⟨j, hj, z⟩⟩
  obtain ⟨m', h1, h2, h3⟩ := least m hn
  exact ⟨m', by omega, h2, h3⟩
/-- the wishes with where they stand -/
structure Ring (N : Nat) (L : List (Nat × Nat)) : Prop where
  lt : ∀ x ∈ L, x.1 < N ∧ x.2 < N
  way : ∀ x ∈ L, ∃ m, x.2 = it (nxr N) m x.1 ∧ ∀ j, j < m → it (nxr N) j x.1 ∈ L.map (·.2)
  nd : (L.map (·.2)).Nodup
theorem Ring.nil {N : Nat} : Ring N [] := ⟨fun _ h => (by cases h), fun _ h => (by cases h), List.nodup_nil⟩
theorem Ring.snoc {N w q : Nat} {L : List (Nat × Nat)} (R : Ring N L) (hw : w < N) (hq : q < N) (F : IsRF (L.map (·.2)) N w q) : Ring N (L ++ [(w, q)]) := by
  refine ⟨fun x hx => ?_, fun x hx => ?_, ?_⟩
  · rcases List.mem_append.mp hx with h | h
    · exact R.lt x h
    · rw [List.mem_singleton.mp h]; exact ⟨hw, hq⟩
  · rw [List.map_append]
    rcases List.mem_append.mp hx with h | h
    · obtain ⟨m, e, hm⟩ := R.way x h
      exact ⟨m, e, fun j hj => List.mem_append.mpr (.inl (hm j hj))⟩
    · rw [List.mem_singleton.mp h]
      obtain ⟨m, e, hm⟩ := F.ex
      exact ⟨m, e, fun j hj => List.mem_append.mpr (.inl (hm j hj))⟩
  · rw [List.map_append]
    refine List.nodup_append.mpr ⟨R.nd, by simp, fun a ha b hb => ?_⟩
    have : b = q := by simpa using hb
    rw [this]
    intro e
    exact F.fin (e ▸ ha)
/-! ### full wishes: as many below each place as there are places below it -/
def below (ws : List Nat) (k : Nat) : Nat := ws.countP fun w => decide (w < k)
def FullL (n : Nat) (ws : List Nat) : Prop := ws.length = n ∧ ∀ k, k ≤ n → k ≤ below ws k
theorem below_cnt (ws : List Nat) (k : Nat) : below ws k + cnt ws k = ws.length := by
  unfold below cnt
  induction ws with
  | nil => rfl
  | cons w ws ih =>
    rw [List.countP_cons, List.countP_cons, List.length_cons]
    by_cases h : w < k
    · rw [if_pos (decide_eq_true h), if_neg (by simp; omega)]; omega
    · rw [if_neg (by simpa using h), if_pos (decide_eq_true (by omega))]; omega
theorem FullL.lt {n : Nat} {ws : List Nat} (h : FullL n ws) : ∀ w ∈ ws, w < n := fun w hw => by
  have h1 := h.2 n (Nat.le_refl _)
  have h2 := below_cnt ws n
  have h3 := h.1
  have z : cnt ws n = 0 := by omega
  unfold cnt at z
  have := List.countP_eq_zero.mp z w hw
  simp at this
  exact this
theorem FullL.nocrowd {n : Nat} {ws : List Nat} (h : FullL n ws) : ∀ w ∈ ws, ¬ n < w + cnt ws w := fun w hw c => by
  have h0 := h.lt w hw
  have h1 := h.2 w (by omega)
  have h2 := below_cnt ws w
  have h3 := h.1
  omega
/-! ### turned wishes -/
end Pk
namespace Pk
/-! ### the first lowest place -/
def hgt (ws : List Nat) (k : Nat) : Int := ((below ws (k + 1) : Nat) : Int) - ((k : Int) + 1)
structure FirstLow (n : Nat) (ws : List Nat) (e : Nat) : Prop where
  lt : e < n + 1
  le : ∀ k, k < n + 1 → hgt ws e ≤ hgt ws k
  fst : ∀ k, k < e → hgt ws e < hgt ws k
theorem below_all {N : Nat} {ws : List Nat} (h : ∀ w ∈ ws, w < N) : below ws N = ws.length := by
  unfold below
  exact List.countP_eq_length.mpr fun w hw => decide_eq_true (h w hw)
/-- the search, place by place -/
structure Low (ws : List Nat) (i : Nat) (least : Int) (e : Nat) : Prop where
  neg : least ≤ 0
  le : ∀ k, k < i → least ≤ hgt ws k
  at_ : (least = 0 ∧ e = 0) ∨ (e < i ∧ hgt ws e = least ∧ least < 0 ∧ ∀ k, k < e → least < hgt ws k)
theorem Low.start (ws : List Nat) : Low ws 0 0 0 := ⟨Int.le_refl _, fun _ h => absurd h (Nat.not_lt_zero _), .inl ⟨rfl, rfl⟩⟩
theorem Low.stay {ws : List Nat} {i e : Nat} {least : Int} (L : Low ws i least e) (h : ¬ hgt ws i < least) : Low ws (i + 1) least e := by
  refine ⟨L.neg, fun k hk => ?_, ?_⟩
  · by_cases c : k = i
    · rw [c]; omega
    · exact L.le k (by omega)
  · rcases L.at_ with z | ⟨z1, z2⟩
    · exact .inl z
    · exact .inr ⟨by omega, z2⟩
theorem Low.first {ws : List Nat} {n e : Nat} {least : Int} (L : Low ws (n + 1) least e) (hl : ws.length = n) (h : ∀ w ∈ ws, w < n + 1) : FirstLow n ws e := by
  have hn : hgt ws n = -1 := by
    unfold hgt
    rw [below_all h, hl]
    omega
  have h1 := L.le n (by omega)
  rcases L.at_ with ⟨z, _⟩ | ⟨z1, z2, z3, z4⟩
  · omega
  · exact ⟨z1, fun k hk => by rw [z2]; exact L.le k hk, fun k hk => by rw [z2]; exact z4 k hk⟩
/-- the height behind i places, before the next -/
def hb (ws : List Nat) (i : Nat) : Int := ((below ws i : Nat) : Int) - (i : Int)
end Pk
/-! Defs by their names; lists of places as values; the dict of the places held. -/
namespace L2
open PySem PySem.Spec PyProof.Rows
section
variable {P : Program} {w : World} {K : PySem.W.Frag} {mg : Str → Option Value} {base : Heap}
/-- a def of the module, called by its name, keeps its promise -/
structure Def (P : Program) (w : World) (K : PySem.W.Frag) (mg : Str → Option Value) (base : Heap) (k : Nat) (x : Str) (ps : List Str) (sp : Sp) : Prop where
  ex : ∃ (f : Addr) (fd : FuncData), mg x = some (.ref f) ∧ PySem.W.keepIn K (.ref f) = true ∧ Binds K fd ps [] ∧ FnOk P w K mg base CX0 k f fd ps sp
/-- its text -/
structure Src (K : PySem.W.Frag) (mg : Str → Option Value) (x : Str) (st : Stmt) (ps : List Str) : Prop where
  ex : ∃ (f : Addr) (fd : FuncData), mg x = some (.ref f) ∧ Fun K x x st f fd ∧ Binds K fd ps []
theorem Src.ok {x : Str} {st : Stmt} {N ps : List Str} {k : Nat} {sp : Sp} (S : Src K mg x st ps) (sc : FnScope N ps (defScope st)) (len : ∀ vs H Q E, sp vs H Q E → vs.length = ps.length)
    (hbody : ∀ (f : Addr) (cdv : Value) (A : Around) (outer : List Env) (s : Shared) (H : Hp) (vs : List V) (Q : VK) (E : XK), Room k (A.deeper (envOfC x (defScope st) s.heap.objs.size f cdv)) → sp vs H Q E →
      ∃ t, PSs (cxOf CX0 P w K mg base N x (defScope st) f cdv A outer s H E).nox (defBody st) t ∧ t { nx := fun _ H' => Q .non H', rt := Q } (start N vs) H) : Def P w K mg base (k + 1) x ps sp := by
  obtain ⟨f, fd, h1, h2, h3⟩ := S.ex
  exact ⟨f, fd, h1, h2.kp, h3, h2.ok sc len fun cdv A outer s H vs Q E hr h => hbody f cdv A outer s H vs Q E hr h⟩
theorem Def.mono {x : Str} {ps : List Str} {sp : Sp} {j k : Nat} (D : Def P w K mg base j x ps sp) (h : j ≤ k) : Def P w K mg base k x ps sp := by
  obtain ⟨f, fd, h1, h2, h3, h4⟩ := D.ex
  exact ⟨f, fd, h1, h2, h3, h4.mono h⟩
end
theorem pe_callD {X : Cx} {k : Nat} {x : Str} {ps : List Str} {sp : Sp} {p pos : Pos} {e : Expr} {es : List Expr} {t : TA} (D : Def X.prog X.w X.K X.mg X.base k x ps sp) (hr : Room k X.A) (hg : Gl X x) (ha : PA X (e :: es) t)
    (hdb : (x == ("__debug__" : Str)) = false := by decide) (he : starEach (e :: es) X.env = (false, eval e X.env) :: starEach es X.env := by rfl) (hpl : (backTo pos (starEach es X.env)).any (·.1) = false := by rfl) :
    PE X (.Call (.Name x p) (e :: es) [] pos) (tCall sp [] E0 t) := by
  obtain ⟨f, fd, h1, h2, h3, h4⟩ := D.ex
  exact pe_call h4 hr hg h1 h2 h3 .nil pass0 ha hdb he hpl
/-! ### within a comprehension: the readings name the text's part alone -/
theorem t_true {σ : L2.St} {H : Hp} {Q : Bool → Hp → Prop} (h : Q true H) : tTrue σ H Q := h
theorem g_name {i : Nat} {v : V} {σ : L2.St} {H : Hp} {Q : L2.St → Hp → Prop} (h : Q (σ.set i (some v)) H) : gName i v σ H Q := h
/-! ### heaps -/
theorem Same.new {H : Hp} {a : Addr} {o : HO} (h : H a = none) : Same H (upd H a o) := fun b u e => by rw [upd_ne (ne_of_none e h)]; exact e
theorem Same.next {H H1 : Hp} {a : Addr} {o : HO} (s : Same H H1) (h : H1 a = none) : Same H (upd H1 a o) := s.trans (Same.new h)
/-- one that was not there is changed -/
theorem Same.own {H H1 : Hp} {a : Addr} {o : HO} (s : Same H H1) (h : H a = none) : Same H (upd H1 a o) := fun b u e => by rw [upd_ne (ne_of_none e h)]; exact s b u e
/-! ### places as values -/
def toI (ws : List Nat) : List Int := ws.map fun n => ((n : Nat) : Int)
abbrev vI (ws : List Nat) : List V := (toI ws).map V.int
theorem vI_eq (ws : List Nat) : vI ws = ws.map fun n => V.int ((n : Nat) : Int) := by
  unfold vI toI
  rw [List.map_map]
  rfl
theorem vI_len (ws : List Nat) : (vI ws).length = ws.length := by rw [vI_eq, List.length_map]
theorem vI_at {ws : List Nat} {i : Nat} {x : V} (h : (vI ws)[i]? = some x) : ∃ w, ws[i]? = some w ∧ x = V.int ((w : Nat) : Int) := by
  rw [vI_eq, List.getElem?_map] at h
  cases e : ws[i]? with
  | none => rw [e] at h; cases h
  | some w => rw [e] at h; exact ⟨w, rfl, (Option.some.inj h).symm⟩
theorem vI_snoc (ws : List Nat) (w : Nat) : vI (ws ++ [w]) = vI ws ++ [V.int ((w : Nat) : Int)] := by
  rw [vI_eq, vI_eq, List.map_append]
  rfl
/-! ### the dict of the places held -/
def DRel (kvs : List (Key × V)) (D : Nat → Option Nat) : Prop := ∀ p : Nat, valV kvs (Sum.inl ((p : Nat) : Int) : Key) = (D p).map fun n => V.int ((n : Nat) : Int)
theorem DRel.nil : DRel [] (fun _ => none) := fun _ => valV_nil
theorem DRel.put {kvs : List (Key × V)} {D : Nat → Option Nat} (h : DRel kvs D) (p n : Nat) : DRel (putK kvs (Sum.inl ((p : Nat) : Int)) (.int ((n : Nat) : Int))) (Pk.put D p n) := fun q => by
  rw [valV_put]
  unfold Pk.put
  by_cases e : q = p
  · rw [if_pos (by rw [e]), if_pos e]
    rfl
  · rw [if_neg (fun z => e (by have := Sum.inl.inj z; omega)), if_neg e]
    exact h q
end L2
/-! Exceptions: one of the program's own is raised, leaves the defs, is caught by a class above it. -/
namespace L2
open PySem PySem.Spec PyProof.Rows
/-- on its way: it has a traceback, and no exception stood ahead of it -/
structure Fl (B : Heap) (l : List Env) (e : Addr) (cls fl : Value) (h : Heap) : Prop where
  st : B.StaysIn h
  ne : B.get? e = none
  ff : h.FunFrames B l
  ob : ∃ oe vs T oT ts, h.get? e = some oe ∧ oe.cls = cls ∧ oe.dict = none ∧ oe.data = .fields vs ∧ vs[1]? = some (.ref T) ∧ vs[2]? = some .none ∧ B.get? T = none ∧ T ≠ e ∧ h.get? T = some oT ∧ oT.data = .fields ts ∧ ts[3]? = some fl
theorem dict_mapFields (o : Obj) (f : Array Value → Array Value) : (o.mapFields f).dict = o.dict := by
  obtain ⟨c, d, dt, sl⟩ := o
  cases dt <;> rfl
section
variable {M : Model} {A : Around} {E : Value → Shared → Prop} {s : Shared} {B : Heap} {env : Env} {outer l : List Env} {L e : Addr} {cls fl : Value} {Q : Unit → Shared → Prop}
theorem entry_on {oe : Obj} {vs : Array Value} {head : Value} {hn : Bool} (fr : A.frames = some (env :: outer)) (hf : env.frame = some L) (st : B.StaysIn s.heap) (ne : B.get? e = none) (ff : s.heap.FunFrames B (env :: outer))
    (he : s.heap.get? e = some oe) (hdn : oe.dict = none) (hd : oe.data = .fields vs) (sz : 1 < vs.size) (h2 : vs[2]? = some .none) (k : ∀ h', Fl B (env :: outer) e oe.cls (rawInt L) h' → s.heap.UpToSlots h' → Q () { s with heap := h' }) :
    wpAny M A (do let a ← frameOf env; let pl ← entryPlaceOf L hn; let b ← EntryCells.newEntry head a .none (rawInt L) .none pl; setField (.ref e) 1 b) Q E s := by
  have out : e ∉ (env :: outer).filterMap (·.frame) := fun m => by
    obtain ⟨_, o, h1, h3⟩ := ff.mem m
    rw [he] at h1
    cases h1
    exact h3 vs hd
  refine wpAny_bind (wpAny_frameOf_fun fr ff hf fun g sg => wpAny_bind (wpAny_entryPlaceOf fun pl hpl => ?_))
  have e1 : g.get? e = some oe := (sg.2.1 e out).trans he
  have ne' : g.objs.size ≠ e := Nat.ne_of_gt (Heap.lt_size e1)
  have sb : B.StaysIn g := fun b o hb => (sg.2.1 b fun m => by have z := (ff.mem m).1; rw [hb] at z; cases z).trans (st b o hb)
  have key : ∀ ob : Obj, (∃ ts, ob.data = .fields ts ∧ ts[3]? = some (rawInt L)) → wpAny M A (setField (.ref e) 1 (.ref g.objs.size)) Q E { s with heap := g.push ob } := by
    rintro ob ⟨ts, hts, h3⟩
    have e2 := Heap.get?_push_of_some (h := g) ob e1
    refine wpAny_setField e2 hd sz ?_
    have keep : ∀ b o, b ≠ e → g.get? b = some o → ((g.push ob).update e (Obj.mapFields (·.setIfInBounds 1 (Value.ref g.objs.size)))).get? b = some o := fun b o hb hg => (Heap.get?_update_other _ _ (Ne.symm hb)).trans (Heap.get?_push_of_some _ hg)
    have hnr : ∀ b o, s.heap.get? b = some o → (∀ vs, o.data ≠ .fields vs) → b ≠ e := fun b o hb nf z => by
      subst z
      rw [he] at hb
      cases hb
      exact nf vs hd
    have up : s.heap.UpToSlots ((g.push ob).update e (Obj.mapFields (·.setIfInBounds 1 (Value.ref g.objs.size)))) := fun b o hb nf => by
      obtain ⟨sl, hs⟩ := sg.2.2 b o hb
      exact ⟨sl, keep b _ (hnr b o hb nf) hs⟩
    refine k _ ⟨fun b o hb => keep b o (fun z => by subst z; rw [ne] at hb; cases hb) (sb b o hb), ne, ff.of_keeps fun b o hb nf => ?_, ?_⟩ up
    · obtain ⟨sl, hs⟩ := up b o hb nf
      exact ⟨_, hs, rfl⟩
    · have hd' := Obj.data_mapFields hd (·.setIfInBounds 1 (Value.ref g.objs.size))
      refine ⟨_, _, g.objs.size, ob, ts, Heap.get?_update_self _ e2 (Obj.isFreed_of_fields hd'), Obj.cls_mapFields _ _, (dict_mapFields _ _).trans hdn, hd', by simp [sz], ?_, sb.fresh, ne', ?_, hts, h3⟩
      · rw [Array.getElem?_setIfInBounds_ne (by decide)]
        exact h2
      · exact (Heap.get?_update_other _ _ (Ne.symm ne')).trans (Heap.get?_push_size g (Obj.isFreed_of_fields hts))
  unfold EntryCells.newEntry newFields
  refine wpAny_bind (wpAny_newObj_type (key _ ⟨_, rfl, ?_⟩) (hpl.sizeOk5 _ _ _ _ _))
  first | (simp; done) | (rcases hpl with rfl | ⟨_, _, _, _, _, _, _, rfl⟩ <;> simp)
theorem note_first {oe : Obj} {vs : Array Value} (fr : A.frames = some (env :: outer)) (hf : env.frame = some L) (st : B.StaysIn s.heap) (ne : B.get? e = none) (ff : s.heap.FunFrames B (env :: outer)) (he : s.heap.get? e = some oe) (hdn : oe.dict = none) (hd : oe.data = .fields vs)
    (h1 : vs[1]? = some .none) (h2 : vs[2]? = some .none) (k : ∀ h', Fl B (env :: outer) e oe.cls (rawInt L) h' → s.heap.UpToSlots h' → Q () { s with heap := h' }) : wpAny M A (noteFrame (.ref e) env) Q E s := by
  unfold noteFrame
  simp only [hf]
  refine wpAny_bind (wpAny_field he hd h1 ?_)
  rw [if_neg (by decide)]
  exact entry_on fr hf st ne ff he hdn hd (Array.getElem?_eq_some_iff.mp h1).1 h2 k
theorem note_next (fr : A.frames = some (env :: outer)) (hf : env.frame = some L) (x : Fl B (env :: outer) e cls .none s.heap) (k : ∀ h', Fl B (env :: outer) e cls (rawInt L) h' → s.heap.UpToSlots h' → Q () { s with heap := h' }) :
    wpAny M A (noteFrame (.ref e) env) Q E s := by
  obtain ⟨st, ne, ff, oe, vs, T, oT, ts, he, hc, hdn, hd, h1, h2, hB, hTe, hT, hdT, h3⟩ := x
  subst hc
  unfold noteFrame
  simp only [hf]
  refine wpAny_bind (wpAny_field he hd h1 ?_)
  rw [if_pos (by simp)]
  refine wpAny_bind (wpAny_field hT hdT h3 ?_)
  rw [if_neg (by simp [rawInt])]
  refine wpAny_bind (wpAny_setField hT hdT (Array.getElem?_eq_some_iff.mp h3).1 ?_)
  have oth : ∀ b, b ≠ T → (s.heap.update T (Obj.mapFields (·.setIfInBounds 3 Value.none))).get? b = s.heap.get? b := fun b hb => Heap.get?_update_other _ _ (Ne.symm hb)
  have hnr : ∀ b o, s.heap.get? b = some o → (∀ vs, o.data ≠ .fields vs) → b ≠ T := fun b o hb nf z => by
    subst z
    rw [hT] at hb
    cases hb
    exact nf ts hdT
  refine entry_on fr hf (fun b o hb => (oth b fun z => by subst z; rw [hB] at hb; cases hb).trans (st b o hb)) ne (ff.of_keeps fun b o hb nf => ⟨o, (oth b (hnr b o hb nf)).trans hb, rfl⟩) ((oth e (Ne.symm hTe)).trans he) hdn hd (Array.getElem?_eq_some_iff.mp h1).1 h2 fun h' y up => k h' y fun b o hb nf => ?_
  exact up b o ((oth b (hnr b o hb nf)).trans hb) nf
theorem flight_off (x : Fl B l e cls fl s.heap) (k : ∀ h', Fl B l e cls .none h' → s.heap.UpToSlots h' → Q () { s with heap := h' }) : wpAny M A (setFlight (.ref e) none) Q E s := by
  obtain ⟨st, ne, ff, oe, vs, T, oT, ts, he, hc, hdn, hd, h1, h2, hB, hTe, hT, hdT, h3⟩ := x
  have sz := (Array.getElem?_eq_some_iff.mp h3).1
  have hnr : ∀ b o, s.heap.get? b = some o → (∀ vs, o.data ≠ .fields vs) → b ≠ T := fun b o hb nf z => by
    subst z
    rw [hT] at hb
    cases hb
    exact nf ts hdT
  unfold setFlight
  refine wpAny_bind (wpAny_field he hd h1 ?_)
  rw [if_pos (by simp)]
  refine wpAny_setField hT hdT sz ?_
  have hd' := Obj.data_mapFields hdT (·.setIfInBounds 3 Value.none)
  have oth : ∀ b, b ≠ T → (s.heap.update T (Obj.mapFields (·.setIfInBounds 3 Value.none))).get? b = s.heap.get? b := fun b hb => Heap.get?_update_other _ _ (Ne.symm hb)
  refine k _ ⟨fun b o hb => (oth b fun z => by subst z; rw [hB] at hb; cases hb).trans (st b o hb), ne, ff.of_keeps fun b o hb nf => ⟨o, (oth b (hnr b o hb nf)).trans hb, rfl⟩, ?_⟩ fun b o hb nf => ⟨o.slots, (oth b (hnr b o hb nf)).trans hb⟩
  exact ⟨oe, vs, T, _, _, (oth e (Ne.symm hTe)).trans he, hc, hdn, hd, h1, h2, hB, hTe, Heap.get?_update_self _ hT (Obj.isFreed_of_fields hd'), hd', by simp [sz]⟩
theorem leave_first {oe : Obj} {vs : Array Value} (fr : A.frames = some (env :: outer)) (hf : env.frame = some L) (st : B.StaysIn s.heap) (ne : B.get? e = none) (ff : s.heap.FunFrames B (env :: outer)) (he : s.heap.get? e = some oe) (hdn : oe.dict = none) (hd : oe.data = .fields vs)
    (h1 : vs[1]? = some .none) (h2 : vs[2]? = some .none) (k : ∀ h', Fl B outer e oe.cls .none h' → s.heap.UpToSlots h' → Q () { s with heap := h' }) : wpAny M A (leaving env (.ref e)) Q E s := by
  unfold leaving
  refine wpAny_bind (note_first fr hf st ne ff he hdn hd h1 h2 fun h1 x1 u1 => flight_off x1 fun h2 x2 u2 => k h2 ⟨x2.st, x2.ne, x2.ff.2.2, x2.ob⟩ (u1.trans u2))
theorem leave_next (fr : A.frames = some (env :: outer)) (hf : env.frame = some L) (x : Fl B (env :: outer) e cls .none s.heap) (k : ∀ h', Fl B outer e cls .none h' → s.heap.UpToSlots h' → Q () { s with heap := h' }) : wpAny M A (leaving env (.ref e)) Q E s := by
  unfold leaving
  refine wpAny_bind (note_next fr hf x fun h1 x1 u1 => flight_off x1 fun h2 x2 u2 => k h2 ⟨x2.st, x2.ne, x2.ff.2.2, x2.ob⟩ (u1.trans u2))
end

/-! ### how it lies behind a call -/
theorem ObjOk.ob {P : Program} {w : World} {H : Hp} {h : Heap} {a : Addr} {o : HO} (x : ObjOk P w H h a o) : ∃ u, h.get? a = some u := by
  cases o with
  | lst xs => obtain ⟨_, _, _, _, e⟩ := x; exact ⟨_, e⟩
  | tup xs => obtain ⟨_, _, _, _, e, _⟩ := x; exact ⟨_, e⟩
  | dK kvs => obtain ⟨_, _, _, _, o, _, _, e, _⟩ := x; exact ⟨_, e⟩
  | dT kvs => obtain ⟨_, _, _, _, o, _, _, e, _⟩ := x; exact ⟨_, e⟩
  | set S n => obtain ⟨o, _, _, _, e, _⟩ := x; exact ⟨_, e⟩
  | ins C dx fs => obtain ⟨_, _, _, e, _⟩ := x; exact ⟨_, e⟩
  | own y => exact x
  | xd fs => obtain ⟨_, ⟨_, _, _, e, _⟩, _⟩ := x; exact ⟨_, e⟩
  | rng lo hi => obtain ⟨_, _, _, e⟩ := x; exact ⟨_, e⟩
  | frz ob u => obtain ⟨e, _⟩ := x; exact ⟨_, e⟩
  | tbl ps => exact ⟨_, (show h.get? a = some _ from x)⟩
  | met f y => exact ⟨_, (show h.get? a = some _ from x)⟩
  | ext φ => obtain ⟨_, e, _⟩ := x; exact e
/-- from H, h to H', h', with all but the frames and what came anew in B -/
structure Fy (P : Program) (w : World) (l : List Env) (H H' : Hp) (h h' B : Heap) (a : Addr) : Prop where
  un : Un (frs l) [] H H' h h'
  hok : HOk P w H' h'
  ff : h'.FunFrames B l
  kept : ∀ b o, h.get? b = some o → H b = none → b ∉ frs l → B.get? b = some o
  trk : ∀ b o, h'.get? b = some o → H' b ≠ none → B.get? b = some o
  has : ∀ b o, h.get? b = some o → b ∉ frs l → ∃ o', B.get? b = some o'
  nt : H' a = none
theorem Fy.on {P : Program} {w : World} {l l' : List Env} {H0 H H' : Hp} {h0 h h' h2 B : Heap} {a : Addr} {cls fl : Value} (base : Un (frs l') [] H0 H h0 h) (x : Fy P w l H H' h h' B a) (hs : ∀ b ∈ frs l', b ∈ frs l)
    (hn : ∀ b o, h0.get? b = some o → b ∉ frs l' → b ∉ frs l) (frf : ∀ b ∈ frs l', H0 b = none) (f : Fl B l' a cls fl h2) (u : h'.UpToSlots h2) : Fy P w l' H0 H' h0 h2 B a := by
  have un : Un (frs l) [] H0 H' h0 h' := (base.mono hs (fun _ z => z)).trans x.un
  have kept : ∀ b o, h0.get? b = some o → H0 b = none → b ∉ frs l' → B.get? b = some o := fun b o q n hb => x.kept b o (base.keep b o q n hb (by simp)) (base.free b o q n (by simp)) (hn b o q hb)
  have has : ∀ b o, h0.get? b = some o → b ∉ frs l' → ∃ o', B.get? b = some o' := fun b o q hb => by
    obtain ⟨o', e⟩ := base.there b o q (by simp)
    exact x.has b o' e (hn b o q hb)
  have slot : ∀ b o, h0.get? b = some o → b ∈ frs l' → ∃ sl, h2.get? b = some { o with slots := sl } := fun b o q hb => by
    obtain ⟨sl, e⟩ := un.slot b o q (frf b hb) (hs b hb) (by simp)
    obtain ⟨_, o', e', nf⟩ := x.ff.mem (hs b hb)
    rw [e] at e'
    cases e'
    obtain ⟨sl', e2⟩ := u b _ e nf
    exact ⟨sl', e2⟩
  refine ⟨⟨fun b o q n hb _ => f.st b o (kept b o q n hb), fun b o q _ hb _ => slot b o q hb, un.free, fun b o q _ => ?_, un.tups, un.frzs, un.tbls⟩, fun b o e => ?_, f.ff, kept, fun b o q n => ?_, has, x.nt⟩
  · by_cases hb : b ∈ frs l'
    · obtain ⟨sl, e⟩ := slot b o q hb
      exact ⟨_, e⟩
    · obtain ⟨o', e⟩ := has b o q hb
      exact ⟨o', f.st b o' e⟩
  · refine (x.hok b o e).stay (fun c v hc q => f.st c v (x.trk c v q ?_)) (fun _ q => q) fun _ _ q => q
    rcases hc with rfl | z
    · rw [e]; simp
    · rw [z]; simp
  · cases e : H' b with
    | none => exact absurd e n
    | some o1 =>
      obtain ⟨v, ev⟩ := (x.hok b o1 e).ob
      have eB := x.trk b v ev n
      have e2 := f.st b v eB
      rw [q] at e2
      cases e2
      exact eB
def CX1 (P : Program) (w : World) : CXT := fun outer H s E e s' => ∃ a cls B H', e = .ref a ∧ s'.os = s.os ∧ AllBare s'.gens ∧ Fy P w outer H H' s.heap s'.heap B a ∧ Fl B outer a cls .none s'.heap ∧ E cls none H'
theorem pass1E {P : Program} {w : World} {X : Cx} : Passes (CX1 P w) X E0 := fun _ _ _ _ _ _ _ ⟨_, _, _, _, _, _, _, _, _, q⟩ => q.elim
section
variable {P : Program} {w : World} {K : PySem.W.Frag} {mg : Str → Option Value} {base : Heap} {N : List Str} {qual : Str} {scope : Scope} {f : Addr} {cd : Value} {A : Around} {outer : List Env} {s : Shared} {H : Hp} {E E' : XK}
theorem frs_new (hs : ∀ b o, s.heap.get? b = some o → b ≠ s.heap.objs.size) : ∀ b o, s.heap.get? b = some o → b ∉ frs outer → b ∉ frs (envOfC qual scope s.heap.objs.size f cd :: outer) := fun b o q hb z => by
  have z : b ∈ s.heap.objs.size :: frs outer := z
  rcases List.mem_cons.mp z with e | e
  · exact hs b o q e
  · exact hb e
theorem frs_sub : ∀ b ∈ frs outer, b ∈ frs (envOfC qual scope s.heap.objs.size f cd :: outer) := fun b hb => (show b ∈ s.heap.objs.size :: frs outer from List.mem_cons_of_mem _ hb)
end
end L2
namespace L2
open PySem PySem.Spec PyProof.Rows PySem.W
structure XC (K : PySem.W.Frag) (C : Addr) : Prop where
  ga : findIn K (.ref C) "__getattribute__" = some (some (.builtin "BaseException.__getattribute__"))
  gn : findIn K (.ref C) "__getattr__" = some none
  cl : findIn K (.ref C) "__class__" = some (some (.builtin "object.__class__"))
  gt : specialIn K (.builtin "object.__class__") "__get__" = some (some (.builtin "getset_descriptor.__get__"))
  tk : takesIn K (.builtin "object.__class__") = some true
  mo : mroIn K C (.type "object") = some true
  mb : mroIn K C (.type "BaseException") = some true
  cs : (clsIn K C).isSome = true
  ex : excIn K C [.type "ValueError", .type "Exception", .type "BaseException", .type "object"] "ValueError.__new__" = true
  kp : keepIn K (.ref C) = true
section
variable {prog : Program} {w : World} {A : Around} {E : Value → Shared → Prop} {s : Shared} {K : Frag} {x C : Addr} {ox : Obj}
theorem xc_find (c : XC K C) : findObj K C none "__class__" = some (.bind (.builtin "getset_descriptor.__get__") (.builtin "object.__class__")) := by
  obtain ⟨cd, hc⟩ := Option.isSome_iff_exists.mp c.cs
  unfold findObj
  rw [hc, Option.bind_some, c.cl, Option.bind_some]
  simp [c.gt, c.tk]
theorem xc_entry {tk : Tok} {Q : PySem.Fin → Shared → Prop} (X : K.In s.heap) (I : InstAt s.heap x ox C none) (c : XC K C) (h : Q (.done (.ret (.ref C))) s) :
    wpAny (model prog w) A (Builtin.«object.__getattribute__» ⟨[.ref x, .str "__class__" tk], []⟩) Q E s := by
  have L0 := I.type (M := model prog w)
  have L1 := looks_find (M := model prog w) X I (xc_find c)
  obtain ⟨hh, g, d, t, os⟩ := s
  refine wpAny_bind (wpAny_pure (wpAny_bind (wpAny_pure (wpAny_bind (L0.at (wpAny_bind (L1.at ?_)))))))
  show wpAny _ _ (Builtin.ObjectAttr.bindTo _ _ _ _) _ _ _
  unfold Builtin.ObjectAttr.bindTo
  refine wpAny_bind (wpAny_holding (wpAny_call (class_get X I c.mo ?_)))
  exact wpAny_pure h
theorem xc_check {nv : Value} {Q : Unit → Shared → Prop} {M : Model} (X : K.In s.heap) (I : InstAt s.heap x ox C none) (c : XC K C) (h : Q () s) : wpAny M A (checkBuiltinCall "BaseException.__getattribute__" ⟨[.ref x, nv], []⟩) Q E s := by
  have hk : builtinKind "BaseException.__getattribute__" = some .slot := by decide +kernel
  have hsplit : splitId "BaseException.__getattribute__" = some ("BaseException", "__getattribute__") := by decide +kernel
  have ha := PySem.F.args_bexc_ga (.ref x) nv
  have L0 := I.type (M := M)
  have L1 := looks_mroIn (M := M) X c.mb
  obtain ⟨hh, g, d, t, os⟩ := s
  simp only [checkBuiltinCall, hk, hsplit]
  unfold isInstance
  repeat (first | lk | wp_step)
  exact h
theorem xc_by {tk : Tok} {Q : Value → Shared → Prop} (X : K.In s.heap) (I : InstAt s.heap x ox C none) (c : XC K C) (h : Q (.ref C) s) : wpAny (model prog w) A (getAttrBy (.ref x) (.str "__class__" tk) false) Q E s := by
  have L0 := I.type (M := model prog w)
  have L1 := looks_findIn (M := model prog w) X c.ga
  have L2 := looks_findIn (M := model prog w) X c.gn
  have hb : bindSpecial (.builtin "BaseException.__getattribute__") (.ref x) = pure (.builtin "BaseException.__getattribute__", [.ref x]) := PySem.F.excAttr_ValueError.ga.bind (.ref x)
  obtain ⟨hh, g, d, t, os⟩ := s
  unfold getAttrBy
  refine wpAny_holding (wpAny_bind (L0.at (wpAny_bind (L1.at ?_))))
  show wpAny _ _ (getAttrByItsOwn _ _ _ _ _ _) _ _ _
  unfold getAttrByItsOwn
  refine wpAny_bind (m := hookBefore _) (L2.at ?_)
  refine wpAny_bind (wpAny_attempt (wpAny_holding ?_))
  show wpAny _ _ (boundAndCalled _ _ _) _ _ _
  unfold boundAndCalled
  rw [hb]
  refine wpAny_bind (wpAny_pure ?_)
  refine wpAny_call (codeAny_call_builtin PySem.F.excAttr_ValueError.ga.plain PySem.F.entry_bexc_ga (xc_check X I c (xc_entry X I c ?_)))
  exact handed_on rfl h
theorem xc_attr {Q : Option Value → Shared → Prop} (X : K.In s.heap) (I : InstAt s.heap x ox C none) (c : XC K C) (h : Q (some (.ref C)) { s with toks := s.toks + 1 }) : wpAny (model prog w) A (getAttr? (.ref x) "__class__") Q E s := by
  unfold getAttr? getAttrBy?
  refine wpAny_bind (wpAny_mkText (wpAny_bind (wpAny_attempt (xc_by (s := { s with toks := s.toks + 1 }) X I c ?_))))
  exact wpAny_pure h
theorem kitx_exc (c : XC K C) : KitX K (.ref x) (.ref C) (fun h => InstAt h x ox C none) where
  ty := fun _ _ _ I => I.type
  it := fun _ _ X _ => by
    obtain ⟨cd, hc⟩ := Option.isSome_iff_exists.mp c.cs
    unfold clsIn at hc
    split at hc
    · rename_i ho
      intro A' Q' E' s' k q
      unfold isType loadHead
      exact wpAny_bind (wpAny_loadPart (k _ _ (X _ _ ho)) (wpAny_pure q))
    · cases hc
  ne := fun h tp dd its n sl X htp => by
    obtain ⟨cd, hc⟩ := Option.isSome_iff_exists.mp c.cs
    refine Bool.eq_false_iff.mpr fun q => ?_
    cases Value.ref.inj (beq_iff_eq.mp q)
    unfold clsIn at hc
    split at hc
    · rename_i ho
      cases (X _ _ ho).symm.trans htp
    · cases hc
  ca := fun X I k => xc_attr X I c k
end

/-! ### within an except suite -/
/-- an exception's object -/
def xO (a C : Addr) : HO := .ext fun h => ∃ oe vs, h.get? a = some oe ∧ oe.cls = .ref C ∧ oe.dict = none ∧ oe.data = .fields vs ∧ vs[2]? = some .none
def rIsiX (K : PySem.W.Frag) : List V → Hp → VK → Prop := fun xs H Q => ∃ a C c cv b, xs = [.ref a, c] ∧ H a = some (xO a C) ∧ XC K C ∧ ((∃ n, c = .ty n ∧ cv = .type n) ∨ (∃ d, c = .ref d ∧ cv = .ref d)) ∧ PySem.W.kitOne K (.ref C) cv = some b ∧ Q (.bl b) H
theorem call_isiX {X : Cx} : CallR X (.builtin "isinstance") (rIsiX X.K) := by
  intro pins s σ H xs us Q I r h
  obtain ⟨a, C, c, cv, b, rfl, ha, xc, hc, e, q⟩ := h
  obtain ⟨u, w', rfl, ru, rc⟩ := vals2 r
  have hw : w' = cv := by
    rcases hc with ⟨n, rfl, rfl⟩ | ⟨a, rfl, rfl⟩
    · exact rc
    · exact rc
  subst hw
  cases (show u = Value.ref a from ru)
  obtain ⟨⟨oe, vs, h1, h2, h3, h4, h5⟩, _⟩ := (show ObjOk X.prog X.w H s.heap a (xO a C) from I.hok a _ ha)
  refine PySem.W.kia_one (kitx_exc (ox := oe) xc) I.kIn ⟨h1, h2, ?_, ?_⟩ e (fun z => nomatch z) fun tk => ⟨.bl b, H, I.tok tk, rfl, q⟩
  · unfold notCls
    rw [h4]
  · rw [h3]
    trivial
/-! ### any, where an exception is being handled: the end of the walk raises StopIteration with that one as its context -/
theorem entry_unchain : entryFor table "proto.unchain" = some Builtin.«proto.unchain» := entryFor_of_fast (by kernel_rfl)
/-- one that is handled, with none ahead of it -/
def Hd (h : Heap) (a : Addr) : Prop := ∃ o vs, h.get? a = some o ∧ o.data = .fields vs ∧ vs[2]? = some .none
theorem raiseNew_on {α : Type} {prog : Program} {w : World} {A : Around} {E : Value → Shared → Prop} {s : Shared} {Q : α → Shared → Prop} {e a : Addr} {oe : Obj} {ve : Array Value} (hh : A.handled = some (.ref a)) (hne : a ≠ e) (hd : Hd s.heap a)
    (he : s.heap.get? e = some oe) (de : oe.data = .fields ve) (sz : 2 < ve.size) (k : E (.ref e) { s with heap := s.heap.update e (Obj.mapFields (·.setIfInBounds 2 (Value.ref a))) }) : wpAny (model prog w) A (raiseNew (.ref e) : Sem α) Q E s := by
  obtain ⟨o, vs, h1, h2, h3⟩ := hd
  unfold raiseNew
  refine wpAny_bind (wpAny_handled ?_)
  rw [hh]
  have c : (Value.ref a != Value.ref e) = true := bne_iff_ne.mpr fun z => hne (Value.ref.inj z)
  dsimp only
  rw [if_pos c]
  refine wpAny_bind (wpAny_holding (wpAny_runValue (codeAny_builtin entry_unchain ?_)))
  unfold Builtin.«proto.unchain»
  refine wpAny_bind (wpAny_field h1 h2 h3 ?_)
  rw [if_pos (by rfl)]
  refine wpAny_pure ?_
  refine wpAny_bind (m := updateField e 2 (.ref a)) ?_
  unfold updateField
  refine wpAny_bind (wpAny_load he ?_)
  rw [de]
  dsimp only
  rw [if_pos sz]
  exact wpAny_update he (wpAny_throw k)
theorem raise_pushed {α : Type} {prog : Program} {w : World} {A : Around} {E : Value → Shared → Prop} {s : Shared} {Q : α → Shared → Prop} {a : Addr} {g : Heap} {ob : Obj} {ve : Array Value} (hh : A.handled = some (.ref a)) (hd : Hd g a) (de : ob.data = .fields ve) (sz : 2 < ve.size)
    (k : ∀ h', (∀ b o, g.get? b = some o → h'.get? b = some o) → (∃ o, h'.get? g.objs.size = some o ∧ o.cls = ob.cls) → E (.ref g.objs.size) { s with heap := h' }) : wpAny (model prog w) A (raiseNew (.ref g.objs.size) : Sem α) Q E { s with heap := g.push ob } := by
  obtain ⟨o, vs, h1, h2, h3⟩ := hd
  have ne : a ≠ g.objs.size := Nat.ne_of_lt (Heap.lt_size h1)
  have hg := Heap.get?_push_size g (Obj.isFreed_of_fields de)
  refine raiseNew_on (s := { s with heap := g.push ob }) hh ne ⟨o, vs, Heap.get?_push_of_some _ h1, h2, h3⟩ hg de sz (k _ (fun b u e => ?_) ⟨_, Heap.get?_update_self _ hg (Obj.isFreed_of_fields (Obj.data_mapFields de _)), Obj.cls_mapFields _ _⟩)
  exact (Heap.get?_update_other _ _ (Ne.symm (Nat.ne_of_lt (Heap.lt_size e)))).trans (Heap.get?_push_of_some _ e)
theorem next_end {prog : Program} {w : World} {A : Around} {E : Value → Shared → Prop} {s : Shared} {p l a : Addr} {i : Nat} {items : Array Value} {Q : Option Value → Shared → Prop} (hh : A.handled = some (.ref a)) (hd : Hd s.heap a) (pa : a ≠ p) (hit : s.heap.IsListIter p l i)
    (hl : s.heap.IsList l items) (hx : items[i]? = none) (hQ : ∀ h', (∀ b o, b ≠ p → s.heap.get? b = some o → h'.get? b = some o) → Q none { s with heap := h' }) : wpAny (model prog w) A (pyNext (.ref p)) Q E s := by
  obtain ⟨o, ho, hc, hdp⟩ := id hit
  obtain ⟨ol, hol, _, nl, hdl⟩ := hl
  unfold pyNext
  refine wpAny_bind (wpAny_attempt (wpAny_callSpecial?_slot (name := Str.ofString "__next__") hit.typeIs slot_listiter_next (wpAny_call_entry slot_listiter_next hit.typeIs entry_listiter_next ?_ (args_listiter_next _))))
  refine wpAny_bind (m := field (.ref p) 0) (wpAny_field ho hdp (x := .ref l) rfl ?_)
  rw [if_neg (show ¬ ((Value.ref l == Value.none) = true) by exact Bool.false_ne_true)]
  refine wpAny_bind (m := field (.ref p) 1) (wpAny_field ho hdp (x := .int i 0) rfl ?_)
  refine wpAny_bind (m := seqItems? (.ref l)) (wpAny_seqItems hol hdl ?_)
  simp only [Int.toNat_natCast, hx]
  refine wpAny_bind (wpAny_rule (wpAny_bind (wpAny_setField ho hdp (by simp) ?_)))
  refine wpAny_bind (m := newExc (.type "StopIteration") []) ?_
  simp only [newExc, newTuple]
  refine wpAny_bind (wpAny_newObj_type ?_ (by size_fits))
  refine wpAny_bind (m := firstArgMember _ _) (wpAny_of_eq (a := Value.none) (by first | rfl | (simp only [firstArgMember]; rfl)) (wpAny_newObj_type ?_ (by size_fits)))
  have sm := (Heap.SameBut.update (a := p) (h := s.heap) (f := Obj.mapFields (·.setIfInBounds 0 Value.none)))
  have kp : ∀ b o, b ≠ p → s.heap.get? b = some o → ((s.heap.update p (Obj.mapFields (·.setIfInBounds 0 Value.none))).push { cls := Value.type "tuple", data := Data.seq #[] }).get? b = some o := fun b o hb e => Heap.get?_push_of_some _ ((sm.2 b hb).trans e)
  obtain ⟨o2, v2, h1, h2, h3⟩ := hd
  refine raise_pushed (s := s) hh ⟨o2, v2, kp a o2 pa h1, h2, h3⟩ rfl (by simp; omega) fun h' k1 ⟨o3, k2, k3⟩ => ?_
  refine wpAny_bind (wpAny_isInstance (T := "StopIteration") (b := true) ⟨o3, k2, k3⟩ isSubtype_stop ?_)
  exact wpAny_pure (hQ h' fun b o hb e => k1 b o (kp b o hb e))
theorem walks_on {prog : Program} {w : World} {A : Around} {a : Addr} (hh : A.handled = some (.ref a)) (p l : Addr) (hne : l ≠ p) (pa : a ≠ p) (items : Array Value) :
    Walks prog w A p [p, l, a] [p] items.size (fun i v => items[i]? = some v) (fun i h => h.IsListIter p l i ∧ h.IsList l items ∧ Hd h a) where
  sub := fun b hb => by simp at hb; simp [hb]
  frame := fun _ _ _ st hk => ⟨st.1.at fun o e => hk p (by simp) o e, st.2.1.at fun o e => hk l (by simp) o e, let ⟨o, vs, h1, h2⟩ := st.2.2; ⟨o, vs, hk a (by simp) o h1, h2⟩⟩
  item := fun i s Q E hi st hQ => by
    refine wpAny_pyNext_list_item st.1 st.2.1 (x := items[i]) (by simp [hi]) fun h' it' sb => ?_
    obtain ⟨o, vs, h1, h2⟩ := st.2.2
    refine hQ _ h' s.toks (by simp [hi]) ⟨it', st.2.1.extBut sb.extBut hne, o, vs, sb.extBut a o pa h1, h2⟩ fun b o hb e => sb.extBut b o (fun h => hb (by simp [h])) e
  done := fun s Q E st hQ => next_end hh st.2.2 pa st.1 st.2.1 (by simp) fun h' k => hQ h' s.toks fun b o hb e => k b o (fun h => hb (by simp [h])) e
  self := fun _ _ _ _ st hQ => wpAny_pyIter_listiter st.1 hQ
def rAnyX (K : PySem.W.Frag) (x : Addr) : List V → Hp → VK → Prop := fun xs H Q => ∃ (a C : Addr) (bs : List Bool), xs = [.ref a] ∧ H x = some (xO x C) ∧ SqL K H a (bs.map V.bl) ∧ Q (.bl (bs.any id)) H
theorem call_anyX {X : Cx} {x : Addr} (hh : X.A.handled = some (.ref x)) : CallR X (.builtin "any") (rAnyX X.K x) := by
  intro pins s σ H xs us Q I r h
  obtain ⟨a, C, bs, rfl, hx, h1, q⟩ := h
  obtain ⟨u, rfl, ru⟩ := vals1 r
  cases ru
  obtain ⟨its, r1, p1, _⟩ := I.list h1
  obtain ⟨⟨ox, vx, x1, _, _, x4, x5⟩, _⟩ := (show ObjOk X.prog X.w H s.heap x (xO x C) from I.hok x _ hx)
  have hl := r1.length
  rw [List.length_map] at hl
  have hlt : a < s.heap.objs.size := by
    obtain ⟨o, n, e, _⟩ := p1
    exact Heap.lt_size e
  refine call_any_walk (wpAny_pyIter_list p1.isList ?_)
  refine ⟨s.heap.objs.size, _, _, _, _, _, (fun i => bs.getD i false), rfl, walks_on (A := X.A.in1) hh s.heap.objs.size a (Nat.ne_of_lt hlt) (Nat.ne_of_lt (Heap.lt_size x1)) its.toArray,
    ⟨⟨_, Heap.get?_push_size _ rfl, rfl, rfl⟩, p1.isList.at fun o e => Heap.get?_push_of_some _ e, ox, vx, Heap.get?_push_of_some _ x1, x4, x5⟩, truth_bls r1, fun h' tk hk => ?_⟩
  have e : ((List.range its.toArray.size).any fun i => bs.getD i false) = bs.any id := by
    rw [List.size_toArray, ← hl]
    conv => rhs; rw [← range_at (bs := bs)]
    rw [List.any_map]
    rfl
  rw [e]
  refine ⟨.bl (bs.any id), H, I.kept (t' := tk) (fun b o q => hk b o (fun z => ?_) (Heap.get?_push_of_some _ q)), rfl, q⟩
  exact adr_ne (Heap.lt_size q) (Nat.le_refl _) (by simpa using z)
end L2
/-! raise of an own exception, try .. except .. as. -/
namespace L2
open PySem PySem.Spec PyProof.Rows PySem.W
/-! ### raise C(..) -/
/-- an exception that is made in this body reaches what is wanted of exceptions -/
def Makes (X : Cx) (E : XK) : Prop := ∀ (pins : List (Addr × Obj)) (σ : St) (H : Hp) (s : Shared) (h' : Heap) (e : Addr) (cls : Value) (vs : List Value), Inv X pins σ H s → Heap.MadeExcOf s.heap h' e cls vs → E cls none H → X.xe (.ref e) { s with heap := h' }
def tRaise (C : Addr) (E : XK) (t : TA) : TS := fun _ σ H => t σ H fun vs H1 => vs.length ≤ sizeLine ∧ E (.ref C) none H1
theorem ps_raise {X : Cx} {C : Addr} {x : Str} {E : XK} {e₀ : Expr} {rest : List Expr} {t : TA} {np cpos pos : Pos} (xc : XC X.K C) (hc : X.calm = true) (hg : Gl X x) (hm : X.mg x = some (.ref C)) (mk : Makes X E) (ha : PA X (e₀ :: rest) t)
    (he : starEach (e₀ :: rest) X.env = (false, eval e₀ X.env) :: starEach rest X.env := by rfl) (hpl : (backTo cpos (starEach rest X.env)).any (·.1) = false := by rfl) (hdb : (x == ("__debug__" : Str)) = false := by decide) :
    PS X (.Raise (some (.Call (.Name x np) (e₀ :: rest) [] cpos)) none pos) (tRaise C E t) := by
  intro pins s σ H D I h
  have q := xc.ex
  unfold excIn at q
  split at q
  · rename_i dd cd sl ho
    split at q
    · rename_i C' bm k0 k1 k2 k3 n k5 hm' hs
      simp only [Bool.and_eq_true, beq_iff_eq, Bool.not_eq_true'] at q
      obtain ⟨⟨⟨⟨⟨rfl, rfl⟩, hdel⟩, ht⟩, hok⟩, hni⟩ := q
      obtain ⟨nm, bs, mro, ns, qn, hd, sn, sub, ab, col, del⟩ := cd
      dsimp only at hm' hdel hok hni
      subst hm' hdel
      have hsl : sl = #[k0, k1, k2, k3, some (.builtin "ValueError.__new__"), k5] := by
        obtain ⟨l⟩ := sl
        simp only at hs
        rw [hs]
      subst hsl
      have hN : X.base.Ns ns _ := .of_isNs (isNs_of_in I.ok.mod.kin hok)
      refine wpAny_Raise_call_subT (C := C') (nm := nm) (q := qn) (N := ns) (bs := bs) (bm := bm) (hdct := hd) (sn := sn) (sub := sub) (ab := ab) (col := col) (dd := dd) (k0 := k0) (k1 := k1) (k2 := k2) (k3 := k3) (k5 := k5) PySem.F.excBase_ValueError (mN := X.base.nsMap ns)
        ((tail_of_in I.ok.mod.kin ht).hasType PySem.F.excBase_ValueError.hasBase) (I.ok.hd hc) (by rw [he]; show (false || (backTo cpos (starEach rest X.env)).any (·.1)) = false; rw [hpl]; rfl) (nsMap_none_of_in I.ok.mod.kin hok hni) (ld_glob I hg hm ⟨rfl, ?_⟩ hdb)
      have z := ha cpos pins s σ H _ I h
      rw [he] at z ⊢
      refine Calls.evalArgs_plain (wpAny_mono z (fun us s2 ⟨vs, H2, I2, r, l, q⟩ => ⟨rfl, ?_, I2.bk _ _ (I2.ok.mod.kin _ _ ho), hN.keeps I2.bk, (tail_of_in I.ok.mod.kin ht).keeps I2.bk, fun h' e hx => mk _ _ _ _ _ _ _ _ I2 hx q⟩) fun _ _ y => y)
      rw [← r.length]
      exact l
    · cases q
  · cases q

/-! ### try .. except C as n -/
abbrev Cx.tries (X : Cx) (pn : List (Addr × Obj)) (xe : Value → Shared → Prop) : Cx := { X with pn := pn, xe := xe }
abbrev Cx.caught (X : Cx) (a : Addr) : Cx := { X with A := X.A.mark (some (.ref a)), calm := false, xe := fun _ _ => False }
section
variable {X : Cx} {pins : List (Addr × Obj)} {σ : St} {H : Hp} {s : Shared}
theorem Cx.Ok.tries (ok : X.Ok) {pn : List (Addr × Obj)} {xe : Value → Shared → Prop} : (X.tries pn xe).Ok := ⟨ok.mod, ok.kind, ok.glob, ok.blt, ok.above, ok.inj, ok.has, ok.cab, ok.hd, ok.frames, ok.stk, ok.exf, ok.bs, ok.bsz, ok.noex, ok.exfs, ok.funs, ok.frf⟩
theorem Cx.Ok.untries {pn : List (Addr × Obj)} {xe : Value → Shared → Prop} (ok : (X.tries pn xe).Ok) : X.Ok := ⟨ok.mod, ok.kind, ok.glob, ok.blt, ok.above, ok.inj, ok.has, ok.cab, ok.hd, ok.frames, ok.stk, ok.exf, ok.bs, ok.bsz, ok.noex, ok.exfs, ok.funs, ok.frf⟩
theorem Cx.Ok.caught (ok : X.Ok) (a : Addr) : (X.caught a).Ok := ⟨ok.mod, ok.kind, ok.glob, ok.blt, ok.above, ok.inj, ok.has, ok.cab, (fun z => nomatch z), ok.frames, ok.stk, ok.exf, ok.bs, ok.bsz, ok.noex, ok.exfs, ok.funs, ok.frf⟩
theorem Inv.tries (I : Inv X pins σ H s) (xe : Value → Shared → Prop) : Inv (X.tries (X.pn ++ pins) xe) [] σ H s := ⟨I.ok.tries, I.os, I.bare, I.base, I.loc, I.cell, I.free, I.freeC, fun p hp => I.pin p (by simpa using hp), I.hok, I.len⟩
theorem Inv.untries {xe : Value → Shared → Prop} {pins' : List (Addr × Obj)} (I : Inv (X.tries (X.pn ++ pins) xe) pins' σ H s) : Inv X pins σ H s := ⟨I.ok.untries, I.os, I.bare, I.base, I.loc, I.cell, I.free, I.freeC, fun p hp => I.pin p (List.mem_append_left _ hp), I.hok, I.len⟩
theorem Inv.caught (I : Inv X pins σ H s) (a : Addr) : Inv (X.caught a) pins σ H s := ⟨I.ok.caught a, I.os, I.bare, I.base, I.loc, I.cell, I.free, I.freeC, I.pin, I.hok, I.len⟩
theorem Inv.uncaught {a : Addr} (ok : X.Ok) (I : Inv (X.caught a) pins σ H s) : Inv X pins σ H s := ⟨ok, I.os, I.bare, I.base, I.loc, I.cell, I.free, I.freeC, I.pin, I.hok, I.len⟩
theorem Inv.nones (I : Inv X pins σ H s) : Inv X pins (List.replicate X.N.length none) H s := I.weak (by rw [List.length_replicate, I.len]) fun i v e => by
  rw [List.getElem?_replicate] at e
  split at e <;> cases e
/-- the frame's names are others now -/
theorem Inv.reframed {h' : Heap} {m' : Str → Option Value} {t' : Nat} (I : Inv X pins σ H s) (hn : h'.Ns X.env.locals m') (sb : Heap.SameBut X.env.locals s.heap h') : Inv X pins (List.replicate X.N.length none) H { s with heap := h', toks := t' } := by
  have neL : ∀ b o, X.s₀.heap.get? b = some o → b ≠ X.env.locals := fun b o e => Nat.ne_of_lt (Nat.lt_of_lt_of_le (Heap.lt_size e) I.ok.above)
  have eq : ∀ b, b ≠ X.env.locals → h'.get? b = s.heap.get? b := fun b hb => sb.2 b hb
  have neT : ∀ b o, H b = some o → b ≠ X.env.locals := fun b o e z => by rw [z, I.free] at e; cases e
  refine ⟨I.ok, I.os, I.bare, ⟨fun b o q n hb hx => (eq b (neL b o q)).trans (I.base.keep b o q n hb hx), fun b o q n hb hx => ?_, I.base.free, fun b o q hx => ?_, I.base.tups, I.base.frzs, I.base.tbls⟩, ⟨m', hn, fun i x v _ e => ?_⟩, fun x c e => ?_, I.free, I.freeC, fun p hp => ?_, fun b o e => ?_, List.length_replicate ..⟩
  · obtain ⟨sl, e⟩ := I.base.slot b o q n hb hx
    exact ⟨sl, (eq b (neL b o q)).trans e⟩
  · obtain ⟨o', e⟩ := I.base.there b o q hx
    exact ⟨o', (eq b (neL b o q)).trans e⟩
  · rw [List.getElem?_replicate] at e
    split at e <;> cases e
  · obtain ⟨v, o, h1, h2⟩ := I.cell x c e
    refine ⟨v, o, (eq c fun z => ?_).trans h1, h2⟩
    obtain ⟨m, ⟨o', es, ep, h3, h4, _⟩, _⟩ := I.loc
    rw [z, h3] at h1
    cases h1
    rw [h4] at h2
    cases h2
  · obtain ⟨h1, h2, h3, h4⟩ := I.pin p hp
    exact ⟨(eq p.1 h3).trans h1, h2, h3, h4⟩
  · refine (I.hok b o e).stay (fun c u hc q => (eq c ?_).trans q) (fun _ q => q) fun _ _ q => q
    rcases hc with rfl | z
    · exact neT _ _ e
    · exact neT _ _ z

def tTry (E : XK) (K : PySem.W.Frag) (C0 : Addr) (i len : Nat) (tb : TS) (ts : Addr → TS) : TS := fun D σ H => tb D σ H ∧ ∀ c H', E c none H' → ∃ C, c = .ref C ∧ exmOne K (.ref C) (.ref C0) = some true ∧
  ∀ a, H' a = none → ts a { nx := fun _ H2 => D.nx (List.replicate len none) H2, rt := D.rt, bk := fun _ H2 => D.bk (List.replicate len none) H2, ct := fun _ H2 => D.ct (List.replicate len none) H2 } ((List.replicate len none).set i (some (.ref a))) (upd H' a (xO a C))
theorem xO_ok {P : Program} {w : World} {H : Hp} {h : Heap} {a C : Addr} {oe : Obj} {vs : Array Value} (h1 : h.get? a = some oe) (h2 : oe.cls = .ref C) (h3 : oe.dict = none) (h4 : oe.data = .fields vs) (h5 : vs[2]? = some .none) : ObjOk P w H h a (xO a C) :=
  ⟨⟨oe, vs, h1, h2, h3, h4, h5⟩, ⟨oe, h1⟩, fun _ _ ⟨oe, vs, q, r⟩ k => ⟨oe, vs, k _ q, r⟩⟩
theorem ps_try {C0 : Addr} {body suite : List Stmt} {b₀ : Stmt} {n x : Str} {i : Nat} {np hpos pos : Pos} {tb : TS} {ts : Addr → TS} (E : XK) (st : X.stack = X.env :: X.outer) (hf : X.env.frame = some X.env.locals) (hlo : X.env.kindOf n = some .local)
    (nd : X.N.Nodup) (hi : X.N[i]? = some n) (hg : Gl X x) (hm : X.mg x = some (.ref C0)) (hb : ∀ pn xe, Passes (CX1 X.prog X.w) (X.tries pn xe) E → PSs (X.tries pn xe) body tb) (hs : ∀ a, PSs (X.caught a) (b₀ :: suite) (ts a)) (hdb : (x == ("__debug__" : Str)) = false := by decide) :
    PS X (.Try body [.ExceptHandler (some (.Name x np)) (some n) (b₀ :: suite) hpos] [] [] pos) (tTry E X.K C0 i X.N.length tb ts) := by
  intro pins s σ H D I ⟨h1, h2⟩
  refine wpAny_Try_except ?_
  refine wpAny_mono (hb (X.pn ++ pins) _ ?_ [] s σ H D (I.tries _) h1) (fun f s1 q => ?_) fun e s1 q => q
  · rintro pins' σ' H1 s1 e s' I1 ⟨a, cls, B, H', rfl, os, bare, y, fl, q⟩
    have I2 : Inv X pins (List.replicate X.N.length none) H1 s1 := I1.untries.nones
    obtain ⟨C, rfl, ex, hr⟩ := h2 _ _ q
    have hr := hr a y.nt
    have fr : X.A.frames = some (X.env :: X.outer) := I.ok.frames.trans (congrArg some st)
    have y : Fy X.prog X.w X.stack H1 H' s1.heap s'.heap B a := y
    have fl : Fl B X.stack a (.ref C) .none s'.heap := fl
    have new : s1.heap.get? a = none := by
      cases z : s1.heap.get? a with
      | none => rfl
      | some o =>
        by_cases m : a ∈ frs X.stack
        · obtain ⟨_, o', e1, nf⟩ := fl.ff.mem m
          obtain ⟨oe, vs, _, _, _, e2, _, _, e3, _⟩ := fl.ob
          rw [e1] at e2
          cases e2
          exact absurd e3 (nf vs)
        · obtain ⟨o', e'⟩ := y.has a o z m
          rw [fl.ne] at e'
          cases e'
    have fl0 := fl
    rw [st] at fl0
    refine note_next fr hf fl0 fun h4 f4 u4 => flight_off f4 fun h5 f5 u5 => ?_
    rw [← st] at f5
    have y5 := Fy.on Un.refl y (fun _ z => z) (fun _ _ _ z => z) I2.stkFree f5 (u4.trans u5)
    have I5 : Inv X pins (List.replicate X.N.length none) H' { s' with heap := h5 } := I2.call' (ch := []) os y5.un y5.hok bare (fun b z => absurd z (by simp))
    refine wpAny_handleBy_cons (codeAny_handlers_test ?_) (by intro z; cases z)
    refine ld_glob (I5.caught a) hg hm ?_ hdb
    obtain ⟨oe, vs, T, oT, ts5, e1, e2, e3, e4, e5, e6, e7⟩ := f5.ob
    refine (exm_one (I5.kIn) (e2 ▸ (Looks.ld e1).andThen .now) ex).at ?_
    refine codeAny_handlers_suite_as (flight_off f5 fun h6 f6 u6 => ?_)
    have y6 := Fy.on Un.refl y5 (fun _ z => z) (fun _ _ _ z => z) I2.stkFree f6 u6
    obtain ⟨o6, vs6, T6, oT6, ts6, g1, g2, g3, g4, g5, g6, g7⟩ := f6.ob
    have nea : ∀ b o, H' b = some o → b ≠ a := fun b o z w => by rw [w, y6.nt] at z; cases z
    have I6 : Inv X pins (List.replicate X.N.length none) (upd H' a (xO a C)) { s' with heap := h6 } := by
      refine I2.call' (ch := []) os ⟨y6.un.keep, y6.un.slot, fun b o z n hx => ?_, y6.un.there, fun b xs z => ?_, fun b o u z => ?_, fun b ps z => ?_⟩ (fun b o z => ?_) bare (fun b z => absurd z (by simp))
      · rw [upd_ne (fun w => by rw [w, new] at z; cases z)]
        exact y6.un.free b o z n hx
      · have := y6.un.tups b xs z
        rw [upd_ne (nea b _ this)]
        exact this
      · have := y6.un.frzs b o u z
        rw [upd_ne (nea b _ this)]
        exact this
      · obtain ⟨m, e⟩ := y6.un.tbls b ps z
        exact ⟨m, by rw [upd_ne (nea b _ e)]; exact e⟩
      · by_cases w : b = a
        · subst w
          rw [upd_same] at z
          cases z
          exact xO_ok g1 g2 g3 g4 g6
        · rw [upd_ne w] at z
          exact (y6.hok b o z).stay (fun _ _ _ q => q) (fun c q => by rw [upd_ne (nea c _ q)]; exact q) fun c xs q => by rw [upd_ne (nea c _ q)]; exact q
    refine store_ok (X := X.caught a) (I6.caught a) nd hi (.inl hlo) (show RelV (.ref a) (Value.ref a) from rfl) (fun s7 I7 => ?_) (.inr hlo)
    refine wpAny_mono (hs a pins s7 _ _ _ I7 hr) (fun f s8 q8 => ?_) fun _ _ z => z.elim
    have fin : ∀ {σ8 H8}, Inv (X.caught a) pins σ8 H8 s8 → (∀ s9, Inv X pins (List.replicate X.N.length none) H8 s9 → SP X pins D f s9) → wpAny (model X.prog X.w) X.A (do bindName X.env n .none; unbindBehindTheSuite X.env n hpos) (fun _ s9 => SP X pins D f s9) X.xe s8 := fun {σ8 H8} J k => by
      obtain ⟨m8, n8, _⟩ := J.loc
      exact wpAny_nameGoes hlo n8 (by rw [I.ok.kind]; rfl) fun h9 m9 n9 sb => k _ ((J.uncaught I.ok).reframed n9 sb)
    cases f with
    | next => obtain ⟨σ8, H8, J, q⟩ := q8; exact fin J fun s9 J9 => ⟨_, H8, J9, q⟩
    | brk => obtain ⟨σ8, H8, J, q⟩ := q8; exact fin J fun s9 J9 => ⟨_, H8, J9, q⟩
    | cont => obtain ⟨σ8, H8, J, q⟩ := q8; exact fin J fun s9 J9 => ⟨_, H8, J9, q⟩
    | ret u => obtain ⟨v, σ8, H8, J, r, q⟩ := q8; exact fin J fun s9 J9 => ⟨v, _, H8, J9, r, q⟩
  · cases f with
    | next => obtain ⟨σ', H', J, q⟩ := q; exact wpAny_execs_nil ⟨σ', H', J.untries, q⟩
    | brk => obtain ⟨σ', H', J, q⟩ := q; exact ⟨σ', H', J.untries, q⟩
    | cont => obtain ⟨σ', H', J, q⟩ := q; exact ⟨σ', H', J.untries, q⟩
    | ret u => obtain ⟨v, σ', H', J, r, q⟩ := q; exact ⟨v, σ', H', J.untries, r, q⟩
end

/-! ### defs that may raise -/
section
variable {P : Program} {w : World} {K : PySem.W.Frag} {mg : Str → Option Value} {base : Heap}
structure DefX (P : Program) (w : World) (K : PySem.W.Frag) (mg : Str → Option Value) (base : Heap) (k : Nat) (x : Str) (ps : List Str) (sp : Sp) : Prop where
  ex : ∃ (f : Addr) (fd : FuncData), mg x = some (.ref f) ∧ PySem.W.keepIn K (.ref f) = true ∧ Binds K fd ps [] ∧ FnOk P w K mg base (CX1 P w) k f fd ps sp
theorem DefX.mono {x : Str} {ps : List Str} {sp : Sp} {j k : Nat} (D : DefX P w K mg base j x ps sp) (h : j ≤ k) : DefX P w K mg base k x ps sp := by
  obtain ⟨f, fd, h1, h2, h3, h4⟩ := D.ex
  exact ⟨f, fd, h1, h2, h3, h4.mono h⟩
end
theorem pe_callX {X : Cx} {k : Nat} {x : Str} {ps : List Str} {sp : Sp} {E : XK} {p pos : Pos} {e : Expr} {es : List Expr} {t : TA} (D : DefX X.prog X.w X.K X.mg X.base k x ps sp) (hr : Room k X.A) (hg : Gl X x) (hx : Passes (CX1 X.prog X.w) X E) (ha : PA X (e :: es) t)
    (hdb : (x == ("__debug__" : Str)) = false := by decide) (he : starEach (e :: es) X.env = (false, eval e X.env) :: starEach es X.env := by rfl) (hpl : (backTo pos (starEach es X.env)).any (·.1) = false := by rfl) :
    PE X (.Call (.Name x p) (e :: es) [] pos) (tCall sp [] E t) := by
  obtain ⟨f, fd, h1, h2, h3, h4⟩ := D.ex
  exact pe_call h4 hr hg h1 h2 h3 .nil hx ha hdb he hpl
end L2
/-! xs[::-1] of a list; the ends of a list cut at a place. -/
namespace L2
open PySem PySem.Spec PyProof.Rows
theorem cut_lo {xs : List V} {m : Nat} (h : m ≤ xs.length) : cutV xs (some (m : Int)) none = xs.drop m := by
  have e : HT.sIx xs.length 0 (some (m : Int)) = m := by
    rw [HT.sIx_nat]
    omega
  unfold cutV
  rw [e]
  exact List.take_of_length_le (by rw [List.length_drop]; simp [HT.sIx])
end L2
/-! An exception out of a loop: where it is noted already, and where it comes back into the body. -/
namespace L2
open PySem PySem.Spec PyProof.Rows
section
variable {M : Model} {A : Around} {E : Value → Shared → Prop} {s : Shared} {B : Heap} {env : Env} {outer l : List Env} {L e : Addr} {cls fl : Value} {Q : Unit → Shared → Prop}
theorem note_again (hf : env.frame = some L) (x : Fl B l e cls (rawInt L) s.heap) (k : Q () s) : wpAny M A (noteFrame (.ref e) env) Q E s := by
  obtain ⟨st, ne, ff, oe, vs, T, oT, ts, he, hc, hdn, hd, h1, h2, hB, hTe, hT, hdT, h3⟩ := x
  unfold noteFrame
  simp only [hf]
  refine wpAny_bind (wpAny_field he hd h1 ?_)
  rw [if_pos (by simp)]
  refine wpAny_bind (wpAny_field hT hdT h3 ?_)
  rw [if_pos (by simp)]
  exact wpAny_pure k
theorem flight_on (x : Fl B l e cls fl s.heap) (k : ∀ h', Fl B l e cls (rawInt L) h' → s.heap.UpToSlots h' → Q () { s with heap := h' }) : wpAny M A (setFlight (.ref e) (some L)) Q E s := by
  obtain ⟨st, ne, ff, oe, vs, T, oT, ts, he, hc, hdn, hd, h1, h2, hB, hTe, hT, hdT, h3⟩ := x
  have sz := (Array.getElem?_eq_some_iff.mp h3).1
  have hnr : ∀ b o, s.heap.get? b = some o → (∀ vs, o.data ≠ .fields vs) → b ≠ T := fun b o hb nf z => by
    subst z
    rw [hT] at hb
    cases hb
    exact nf ts hdT
  unfold setFlight
  refine wpAny_bind (wpAny_field he hd h1 ?_)
  rw [if_pos (by simp)]
  refine wpAny_setField hT hdT sz ?_
  have hd' := Obj.data_mapFields hdT (·.setIfInBounds 3 (rawInt L))
  have oth : ∀ b, b ≠ T → (s.heap.update T (Obj.mapFields (·.setIfInBounds 3 (rawInt L)))).get? b = s.heap.get? b := fun b hb => Heap.get?_update_other _ _ (Ne.symm hb)
  refine k _ ⟨fun b o hb => (oth b fun z => by subst z; rw [hB] at hb; cases hb).trans (st b o hb), ne, ff.of_keeps fun b o hb nf => ⟨o, (oth b (hnr b o hb nf)).trans hb, rfl⟩, ?_⟩ fun b o hb nf => ⟨o.slots, (oth b (hnr b o hb nf)).trans hb⟩
  exact ⟨oe, vs, T, _, _, (oth e (Ne.symm hTe)).trans he, hc, hdn, hd, h1, h2, hB, hTe, Heap.get?_update_self _ hT (Obj.isFreed_of_fields hd'), hd', by simp [sz]⟩
theorem leave_held (hf : env.frame = some L) (x : Fl B (env :: outer) e cls (rawInt L) s.heap) (k : ∀ h', Fl B outer e cls .none h' → s.heap.UpToSlots h' → Q () { s with heap := h' }) : wpAny M A (leaving env (.ref e)) Q E s := by
  unfold leaving
  exact wpAny_bind (note_again hf x (flight_off x fun h2 x2 u2 => k h2 ⟨x2.st, x2.ne, x2.ff.2.2, x2.ob⟩ u2))
end
/-- just made, not noted yet -/
structure New (B : Heap) (a : Addr) (cls : Value) (h : Heap) : Prop where
  st : B.StaysIn h
  ne : B.get? a = none
  ob : ∃ oe vs, h.get? a = some oe ∧ oe.cls = cls ∧ oe.dict = none ∧ oe.data = .fields vs ∧ vs[1]? = some .none ∧ vs[2]? = some .none
/-- an exception within a def's body: made, come from a callee, or noted -/
def XE1 (P : Program) (w : World) (env : Env) (outer : List Env) (L : Addr) (H0 : Hp) (s0 : Shared) (E : XK) : Value → Shared → Prop := fun e s' => ∃ a cls B H1 h1 H', e = .ref a ∧ s'.os = s0.os ∧ AllBare s'.gens ∧ Un (frs outer) [] H0 H1 s0.heap h1 ∧ (∀ b ∈ frs (env :: outer), H1 b = none) ∧
  Fy P w (env :: outer) H1 H' h1 s'.heap B a ∧ E cls none H' ∧ (New B a cls s'.heap ∨ Fl B (env :: outer) a cls .none s'.heap ∨ Fl B (env :: outer) a cls (rawInt L) s'.heap)
section
variable {P : Program} {w : World} {K : PySem.W.Frag} {mg : Str → Option Value} {base : Heap} {N : List Str} {qual : Str} {scope : Scope} {f : Addr} {cd : Value} {A : Around} {outer : List Env} {s : Shared} {H : Hp} {E E' : XK}
/-- the context of the body of a def that may raise, also out of a loop -/
abbrev cxL (P : Program) (w : World) (K : PySem.W.Frag) (mg : Str → Option Value) (base : Heap) (N : List Str) (qual : Str) (scope : Scope) (f : Addr) (cd : Value) (A : Around) (outer : List Env) (s : Shared) (H : Hp) (E : XK) : Cx :=
  (cxOf (CX1 P w) P w K mg base N qual scope f cd A outer s H E).wish (XE1 P w (envOfC qual scope s.heap.objs.size f cd) outer s.heap.objs.size H s E)
theorem xe_leaves (frf : ∀ b ∈ frs outer, H b = none) (fr : (A.deeper (envOfC qual scope s.heap.objs.size f cd)).frames = some (envOfC qual scope s.heap.objs.size f cd :: outer)) {e : Value} {s' : Shared} (h : XE1 P w (envOfC qual scope s.heap.objs.size f cd) outer s.heap.objs.size H s E e s') :
    (cxOf (CX1 P w) P w K mg base N qual scope f cd A outer s H E).xe e s' := by
  obtain ⟨a, cls, B, H1, h1, H', rfl, os, bare, bs, fre, y, q, st⟩ := h
  show wpAny (model P w) _ (leaving (envOfC qual scope s.heap.objs.size f cd) (.ref a)) _ _ s'
  have fin : ∀ h2, Fl B outer a cls .none h2 → s'.heap.UpToSlots h2 → CX1 P w outer H s E (.ref a) { s' with heap := h2 } := fun h2 fl2 u => ⟨a, cls, B, H', rfl, os, bare, Fy.on bs y frs_sub (frs_new fun b o q => Nat.ne_of_lt (Heap.lt_size q)) frf fl2 u, fl2, q⟩
  rcases st with st | st | st
  · obtain ⟨oe, vs, e1, e2, e3, e4, e5, e6⟩ := st.ob
    subst e2
    exact leave_first fr rfl st.st st.ne y.ff e1 e3 e4 e5 e6 fin
  · exact leave_next fr rfl st fin
  · exact leave_held rfl st fin
theorem xe_own (fr : (A.deeper (envOfC qual scope s.heap.objs.size f cd)).frames = some (envOfC qual scope s.heap.objs.size f cd :: outer)) :
    PassesOwn (model P w) (A.deeper (envOfC qual scope s.heap.objs.size f cd)) (envOfC qual scope s.heap.objs.size f cd) (XE1 P w (envOfC qual scope s.heap.objs.size f cd) outer s.heap.objs.size H s E) := by
  rintro e s' ⟨a, cls, B, H1, h1, H', rfl, os, bare, bs, fre, y, q, st⟩
  show wpAny _ _ (noteFrame (.ref a) (envOfC qual scope s.heap.objs.size f cd)) _ _ s'
  have fin : ∀ h2, Fl B (envOfC qual scope s.heap.objs.size f cd :: outer) a cls (rawInt s.heap.objs.size) h2 → s'.heap.UpToSlots h2 →
      cameBackBy (model P w) (A.deeper (envOfC qual scope s.heap.objs.size f cd)) (envOfC qual scope s.heap.objs.size f cd) (XE1 P w (envOfC qual scope s.heap.objs.size f cd) outer s.heap.objs.size H s E) (.ref a) { s' with heap := h2 } := fun h2 f2 u => by
    obtain ⟨oe, vs, T, oT, ts, he, hc, hdn, hd, e1, e2, hB, hTe, hT, hdT, e3⟩ := id f2.ob
    refine wpAny_bind (wpAny_field he hd e1 ?_)
    rw [if_neg (by simp)]
    refine flight_on f2 fun h3 f3 u3 => ⟨a, cls, B, H1, h1, H', rfl, os, bare, bs, fre, ?_, q, .inr (.inr f3)⟩
    exact Fy.on Un.refl y (fun _ z => z) (fun _ _ _ z => z) fre f3 (u.trans u3)
  rcases st with st | st | st
  · obtain ⟨oe, vs, e1, e2, e3, e4, e5, e6⟩ := st.ob
    subst e2
    exact note_first fr rfl st.st st.ne y.ff e1 e3 e4 e5 e6 fin
  · exact note_next fr rfl st fin
  · exact note_again rfl st (fin _ st (Heap.UpToSlots.refl _))
/-- it is made here -/
theorem makesL : Makes (cxL P w K mg base N qual scope f cd A outer s H E) E := by
  intro pins σ H1 s1 h2 e cls vs I hx q
  obtain ⟨t, he, _, _⟩ := hx.there
  have st : (PySem.W.hideAll s1.heap (frs (envOfC qual scope s.heap.objs.size f cd :: outer))).StaysIn s1.heap := fun b o q => PySem.W.of_hideAll _ q
  have ff : s1.heap.FunFrames (PySem.W.hideAll s1.heap (frs (envOfC qual scope s.heap.objs.size f cd :: outer))) (envOfC qual scope s.heap.objs.size f cd :: outer) := PySem.W.funFrames_hide I.stack fun env he b hb => List.mem_filterMap.mpr ⟨env, he, hb⟩
  have ff2 := ff.of_keeps (h' := h2) fun b o hb _ => ⟨o, hx.keeps b o hb, rfl⟩
  have nt : H1 e = none := by
    cases z : H1 e with
    | none => rfl
    | some o =>
      obtain ⟨u, eu⟩ := (I.hok e o z).ob
      have := hx.new
      rw [eu] at this
      cases this
  have ne : (PySem.W.hideAll s1.heap (frs (envOfC qual scope s.heap.objs.size f cd :: outer))).get? e = none := by
    cases z : (PySem.W.hideAll s1.heap (frs (envOfC qual scope s.heap.objs.size f cd :: outer))).get? e with
    | none => rfl
    | some o =>
      have := st e o z
      rw [hx.new] at this
      cases this
  refine ⟨e, cls, _, H1, s1.heap, H1, rfl, I.os, I.bare, I.base, I.stkFree, ⟨Un.kept hx.keeps, I.hok.kept hx.keeps, ff2, fun b o q _ hb => PySem.W.hideAll_get _ q hb, fun b o q n => ?_, fun b o q hb => ⟨o, PySem.W.hideAll_get _ q hb⟩, nt⟩, q, .inl ⟨fun b o q => hx.keeps b o (st b o q), ne, _, _, he, rfl, rfl, rfl, rfl, rfl⟩⟩
  cases z : H1 b with
  | none => exact absurd z n
  | some o1 =>
    obtain ⟨v, ev⟩ := (I.hok b o1 z).ob
    have e2 := hx.keeps b v ev
    rw [q] at e2
    cases e2
    exact PySem.W.hideAll_get _ ev fun m => by have := I.stkFree b m; rw [z] at this; cases this
/-- a def that may raise, by its body in that context; A's frames are the callers' -/
theorem Src.okL {x : Str} {st : Stmt} {N ps : List Str} {k : Nat} {sp : Sp} (S : Src K mg x st ps) (sc : FnScope N ps (defScope st)) (len : ∀ vs H Q E, sp vs H Q E → vs.length = ps.length)
    (hbody : ∀ (f : Addr) (cdv : Value) (A : Around) (outer : List Env) (s : Shared) (H : Hp) (vs : List V) (Q : VK) (E : XK), Room k (A.deeper (envOfC x (defScope st) s.heap.objs.size f cdv)) → sp vs H Q E →
      ∃ t, (PassesOwn (model P w) (A.deeper (envOfC x (defScope st) s.heap.objs.size f cdv)) (envOfC x (defScope st) s.heap.objs.size f cdv) (cxL P w K mg base N x (defScope st) f cdv A outer s H E).xe → PSs (cxL P w K mg base N x (defScope st) f cdv A outer s H E) (defBody st) t) ∧ t { nx := fun _ H' => Q .non H', rt := Q } (start N vs) H) : DefX P w K mg base (k + 1) x ps sp := by
  obtain ⟨f, fd, h1, h2, h3⟩ := S.ex
  obtain ⟨oc, od, kV, doc, pm, an, cdv, ct, osl, rfl, lk, hcd⟩ := h2.ex
  refine ⟨f, _, h1, h2.kp, h3, fn_of lk hcd sc len fun A outer s H vs Q E hr hsp => ?_⟩
  obtain ⟨t, hp, ht⟩ := hbody f cdv A outer s H vs Q E hr hsp
  refine ⟨t, fun pins s1 σ H1 D I hw => ?_, ht⟩
  have fr : (A.deeper (envOfC x (defScope st) s.heap.objs.size f cdv)).frames = some (envOfC x (defScope st) s.heap.objs.size f cdv :: outer) := I.ok.frames
  exact wpAny_mono (hp (xe_own fr) pins s1 σ H1 D (I.wish _) hw) (fun _ _ q => q.unwish) fun e s' z => xe_leaves I.ok.frf fr z
end
end L2
/-! A call of a def that a name of the body holds. -/
namespace L2
open PySem PySem.Spec PyProof.Rows
/-- a def as a value -/
structure FnAt (P : Program) (w : World) (K : PySem.W.Frag) (mg : Str → Option Value) (base : Heap) (k : Nat) (f : Addr) (ps : List Str) (sp : Sp) : Prop where
  ex : ∃ fd : FuncData, PySem.W.keepIn K (.ref f) = true ∧ Binds K fd ps [] ∧ FnOk P w K mg base (CX1 P w) k f fd ps sp
theorem DefX.at {P : Program} {w : World} {K : PySem.W.Frag} {mg : Str → Option Value} {base : Heap} {k : Nat} {x : Str} {ps : List Str} {sp : Sp} (D : DefX P w K mg base k x ps sp) : ∃ f, mg x = some (.ref f) ∧ FnAt P w K mg base k f ps sp := by
  obtain ⟨f, fd, h1, h2, h3, h4⟩ := D.ex
  exact ⟨f, h1, fd, h2, h3, h4⟩
theorem FnOk.cx {P : Program} {w : World} {K : PySem.W.Frag} {mg : Str → Option Value} {base : Heap} {CX : CXT} {k : Nat} {f : Addr} {fd : FuncData} {ps : List Str} {sp : Sp} (F : FnOk P w K mg base CX0 k f fd ps sp) : FnOk P w K mg base CX k f fd ps sp :=
  ⟨F.len, fun A outer s H args us vs Q E hr e0 hb r h => codeAny_mono (F.run A outer s H args us vs Q E hr e0 hb r h) fun res s' q => by
    cases res with
    | error e => exact False.elim q
    | ok fl => cases fl <;> exact q⟩
theorem Def.x {P : Program} {w : World} {K : PySem.W.Frag} {mg : Str → Option Value} {base : Heap} {k : Nat} {x : Str} {ps : List Str} {sp : Sp} (D : Def P w K mg base k x ps sp) : DefX P w K mg base k x ps sp := by
  obtain ⟨f, fd, h1, h2, h3, h4⟩ := D.ex
  exact ⟨f, fd, h1, h2, h3, h4.cx⟩
end L2
/-! Texts: join of a list of texts, a text written n times. -/
namespace L2
open PySem PySem.Spec PyProof.Rows
theorem strsAre_of : ∀ {ys : List Str} {us : List Value}, Vals (ys.map V.str) us → StrsAre us ys
  | [], _, .nil => .nil
  | y :: ys, _, .cons r t => by
    obtain ⟨tk, rfl⟩ := r
    exact .cons y tk (strsAre_of t)
def rJoin (K : PySem.W.Frag) : V → List V → Hp → VK → Prop := fun x vs H Q => ∃ (z : Str) (a : Addr) (ys : List Str), x = .str z ∧ vs = [.ref a] ∧ SqL K H a (ys.map V.str) ∧ (ys.map (·.length)).sum + ys.length * z.length ≤ 16777216 ∧ Q (.str (Txt.join z ys)) H
theorem mt_join {X : Cx} : MtR X "str.join" (rJoin X.K) := by
  intro pins s σ H x xs v us Q I rx rv h
  obtain ⟨z, a, ys, rfl, rfl, hq, hz, q⟩ := h
  obtain ⟨tk, rfl⟩ := rx
  obtain ⟨u, rfl, ru⟩ := vals1 rv
  cases ru
  obtain ⟨its, r1, p1, _⟩ := I.list hq
  exact join_list p1.isList (by simpa using strsAre_of r1) hz fun t' k => ⟨.str _, H, I.tok k, ⟨t', rfl⟩, q⟩
/-- z written n times -/
def repS (z : Str) (n : Nat) : Str := ⟨(List.replicate n z.cps).foldl (· ++ ·) #[]⟩
theorem rep_size (a : Array Nat) : ∀ (n : Nat) (b : Array Nat), ((List.replicate n a).foldl (· ++ ·) b).size = b.size + n * a.size
  | 0, b => by simp
  | n + 1, b => by
    rw [List.replicate_succ, List.foldl_cons, rep_size a n, Array.size_append, Nat.succ_mul]
    omega
theorem repS_len (z : Str) (n : Nat) : (repS z n).length = n * z.length := by
  show ((List.replicate n z.cps).foldl (· ++ ·) #[]).size = n * z.cps.size
  rw [rep_size]
  simp
theorem op_mulS {X : Cx} : OpR X (binaryOp .Mult) (fun x y H Q => ∃ (z : Str) (n : Nat), x = .str z ∧ y = .int (n : Int) ∧ z.length ≤ 16 ∧ n ≤ 10000 ∧ Q (.str (repS z n)) H) := by
  intro pins s σ H x y v u Q I rx ry h
  obtain ⟨z, n, rfl, rfl, hz, hn, q⟩ := h
  obtain ⟨t1, rfl⟩ := rx
  obtain ⟨t2, rfl⟩ := ry
  have hm : z.length * n ≤ 160000 := Nat.le_trans (Nat.mul_le_mul hz hn) (by decide)
  refine P.mul_str ?_ (fun h1 _ => ?_) (fun _ _ => ?_) ?_
  · rw [decide_eq_false (by omega), decide_eq_false (by omega)]
    rfl
  · have h2 : ((z.length : Nat) : Int) ≤ (2 ^ 63 - 1 : Int) / (n : Int) := Int.le_ediv_of_mul_le (by omega) (by
      have : (((z.length * n : Nat)) : Int) ≤ 160000 := by omega
      rw [Int.natCast_mul] at this
      omega)
    omega
  · rw [Int.toNat_natCast]
    exact decide_eq_false (by show ¬ z.length * n > sizeLine; have : sizeLine = 16777216 := rfl; omega)
  · have fin : ∀ (tk k : Nat), EP X pins σ Q (.str (repS z n) tk) { s with toks := k } := fun tk k => ⟨.str _, H, I.tok k, ⟨tk, rfl⟩, q⟩
    by_cases c1 : (n : Int) < 1
    · rw [if_pos c1]
      obtain rfl : n = 0 := by omega
      exact ⟨by decide, fin _ _⟩
    · rw [if_neg c1]
      by_cases c2 : ((n : Int) == 1 || z.length == 0) = true
      · rw [if_pos c2]
        have e : repS z n = z := by
          rcases Bool.or_eq_true_iff.mp c2 with w | w
          · have : n = 1 := by have := beq_iff_eq.mp w; omega
            subst this
            show (⟨#[] ++ z.cps⟩ : Str) = z
            simp
          · have w : z.cps = #[] := Array.size_eq_zero_iff.mp (beq_iff_eq.mp w)
            unfold repS
            rw [w]
            have : ∀ m : Nat, (List.replicate m (#[] : Array Nat)).foldl (· ++ ·) #[] = #[] := fun m => by
              induction m with
              | zero => rfl
              | succ m ih => rw [List.replicate_succ, List.foldl_cons]; simpa using ih
            rw [this]
            cases z
            cases w
            rfl
        have q2 := fin t1 s.toks
        rw [e] at q2
        exact q2
      · rw [if_neg c2]
        refine ⟨?_, fin _ _⟩
        show (repS z n).length ≤ sizeLine
        rw [repS_len]
        have : sizeLine = 16777216 := rfl
        rw [Nat.mul_comm] at hm
        omega
end L2
/-! Texts: each sign in turn. -/
namespace L2
open PySem PySem.Spec PyProof.Rows
def Its (z : Str) : It := ⟨fun i _ => i < z.cps.size, fun i H x H' => H' = H ∧ ∃ c, z.cps[i]? = some c ∧ x = .str ⟨#[c]⟩, fun i _ => i = z.cps.size⟩
theorem turn_str {P : Program} {w : World} {K : PySem.W.Frag} {tg : Expr} (it : Addr) (ty : String) (z : Str) (t : Tok) (hty : ["enumerate", "zip", "dict_itemiterator", "dict_reverseitemiterator", "odict_iterator", "itertools.zip_longest", "itertools.pairwise"].contains ty = false)
    (W : ∀ A : Around, A.handled = none → Walks P w A it [it] [it] z.cps.size (SignAt z) (fun i h => h.IsStrIter it ty z t i))
    (S : ∀ (A : Around) (i : Nat) (s : Shared) (Q : Value → Shared → Prop) (E : Value → Shared → Prop), s.heap.IsStrIter it ty z t i → Q (.ref it) s → wpAny (model P w) A (pyIter (.ref it)) Q E s) : Turn P w K tg (Its z) [it] it (fun i h => h.IsStrIter it ty z t i) where
  mem := by simp
  obj := fun i h st b hb => by
    have e : b = it := by simpa using hb
    subst e
    obtain ⟨o, e, c, d⟩ := st
    exact ⟨o, e, fun v y => by rw [d] at y; cases y⟩
  keep := fun i h h' st k => let ⟨o, e, r⟩ := st; ⟨o, k it (by simp) o e, r⟩
  item := by
    intro X hP hw hK hc i pins s σ H E I hf st hg
    subst hP hw hK
    obtain ⟨f0, f1, f2, f3, f4, f5⟩ := hf it (by simp)
    refine (W X.A (I.ok.hd hc)).item i s _ _ hg st fun v h' tk hv st' kk => ?_
    obtain ⟨c, u, hc', rfl⟩ := hv
    have I1 : Inv X pins σ H { s with heap := h', toks := tk } := I.turned (fun b o hb e => kk b o (by simpa using hb) e) f0 f1 f3 f4 f5
    obtain ⟨o, e, c1, d1⟩ := id st'
    exact ⟨_, rfl, go_of (s := { s with heap := h', toks := tk }) e c1 d1 hty ⟨.str ⟨#[c]⟩, H, I1, ⟨u, rfl⟩, ⟨rfl, c, hc', rfl⟩, st', fun b hb => (hf b hb).1⟩⟩
  done := by
    intro X hP hw hK hc i pins s σ H E I hf st hg
    subst hP hw hK
    obtain ⟨f0, f1, f2, f3, f4, f5⟩ := hf it (by simp)
    have hg : i = z.cps.size := hg
    subst hg
    exact (W X.A (I.ok.hd hc)).done s _ _ st fun h' tk kk => ⟨rfl, I.turned (fun b o hb e => kk b o (by simpa using hb) e) f0 f1 f3 f4 f5⟩
  self := S
def iStr (tl : TE) : TI := fun σ H R => tl σ H fun x H1 => ∃ z, x = .str z ∧ R (Its z) H1
theorem pi_str {X : Cx} {tg l : Expr} {tl : TE} (hl : PE X l tl) : PI X tg l (iStr tl) := by
  intro pins s σ H R I h
  refine thn (hl pins s σ H _ I h) fun v s1 ⟨x, H1, I1, r1, z, e, q⟩ => ?_
  subst e
  obtain ⟨t, rfl⟩ := r1
  have fp : ∀ (o : Obj), ∀ b ∈ [s1.heap.objs.size], FpOk X pins H1 b := fun o b hb => by
    have e : b = s1.heap.objs.size := by simpa using hb
    subst e
    exact I1.fpOk (Nat.le_refl _) (I1.hok.fresh (Nat.le_refl _))
  cases ha : z.cps.all (· < 128)
  · refine wpAny_pyIter_wide ha ?_
    exact ⟨s1.heap.objs.size, [s1.heap.objs.size], _, _, H1, rfl, I1.kept (t' := s1.toks) fun b o e => Heap.get?_push_of_some _ e, turn_str _ "str_iterator" z t (by decide) (fun A hA => Walks.strWide hA _ z t) (fun A i s Q E st hq => wpAny_pyIter_striter_wide st hq), ⟨_, Heap.get?_push_size _ rfl, rfl, rfl⟩, fp default, q⟩
  · refine wpAny_pyIter_ascii ha ?_
    exact ⟨s1.heap.objs.size, [s1.heap.objs.size], _, _, H1, rfl, I1.kept (t' := s1.toks) fun b o e => Heap.get?_push_of_some _ e, turn_str _ "str_ascii_iterator" z t (by decide) (fun A hA => Walks.strAscii hA _ z t) (fun A i s Q E st hq => wpAny_pyIter_striter_ascii st hq), ⟨_, Heap.get?_push_size _ rfl, rfl, rfl⟩, fp default, q⟩
/-- for c in z: a loop's reading -/
theorem for_str {z : Str} {g : TG} {tb : TS} {D : Ends} {σ : St} {H : Hp} (Pv : Nat → St → Hp → Prop) (h0 : Pv 0 σ H) (hs : ∀ i c σ H, z.cps[i]? = some c → Pv i σ H → g (.str ⟨#[c]⟩) σ H fun σ2 H2 => tb { D with nx := Pv (i + 1), ct := Pv (i + 1), bk := D.nx } σ2 H2)
    (hd : ∀ σ H, Pv z.cps.size σ H → D.nx σ H) : ∃ W : Nat → Nat → St → Hp → Prop, (∃ m, W 0 m σ H) ∧ ∀ i m σ H, W i m σ H →
      ((Its z).stop i H ∧ D.nx σ H) ∨ ((Its z).go i H ∧ ∃ N : St → Hp → Prop, (∀ σ' H', N σ' H' → ∃ m', m' < m ∧ W (i + 1) m' σ' H') ∧ ∀ x H', (Its z).yld i H x H' → g x σ H' fun σ2 H2 => tb { D with nx := N, ct := N, bk := D.nx } σ2 H2) := by
  refine ⟨fun i m σ H => m = z.cps.size - i ∧ i ≤ z.cps.size ∧ Pv i σ H, ⟨z.cps.size, by simp, Nat.zero_le _, h0⟩, ?_⟩
  rintro i m σ H ⟨rfl, hi, p⟩
  by_cases c : i < z.cps.size
  · refine .inr ⟨c, Pv (i + 1), fun σ' H' q => ⟨z.cps.size - (i + 1), by omega, rfl, c, q⟩, fun x H' hy => ?_⟩
    obtain ⟨rfl, ch, hc, rfl⟩ := hy
    exact hs i ch σ _ hc p
  · have e : i = z.cps.size := by omega
    subst e
    exact .inl ⟨rfl, hd σ H p⟩
/-! ### z[lo:hi] of a text -/
def rSlS : V → Option Int → Option Int → Hp → VK → Prop := fun x lo hi H Q => ∃ z, x = .str z ∧ z.length ≤ sizeLine ∧ Q (.str (Txt.slice z lo hi)) H
theorem sl_str {X : Cx} : SlR X rSlS := by
  intro pins s σ H x v vl vu lo hi sl Q I rx hs pl pu h
  obtain ⟨z, rfl, hz, q⟩ := h
  obtain ⟨t, rfl⟩ := rx
  refine ⟨"str", _, F.slot_str_getitem.lookup, typeIs_str _ _ _, ?_⟩
  have fin : ∀ (tk k : Nat), EP X pins σ Q (.str (Txt.slice z lo hi) tk) { s with toks := k } := fun tk k => ⟨.str _, H, I.tok k, ⟨tk, rfl⟩, q⟩
  obtain ⟨o, h1, h2, h3⟩ := hs
  cases pl with
  | none => cases pu with
    | none => exact wpAny_getItem_str_slice (l := none) (u := none) (st := none) ⟨o, h1, h2, h3⟩ rfl (post_val_or_str ⟨Nat.le_trans (Txt.slice_le z _ _) hz, fin⟩)
    | int j uj => exact wpAny_getItem_str_slice (l := none) (u := some (j, uj)) (st := none) ⟨o, h1, h2, h3⟩ rfl (post_val_or_str ⟨Nat.le_trans (Txt.slice_le z _ _) hz, fin⟩)
  | int i ui => cases pu with
    | none => exact wpAny_getItem_str_slice (l := some (i, ui)) (u := none) (st := none) ⟨o, h1, h2, h3⟩ rfl (post_val_or_str ⟨Nat.le_trans (Txt.slice_le z _ _) hz, fin⟩)
    | int j uj => exact wpAny_getItem_str_slice (l := some (i, ui)) (u := some (j, uj)) (st := none) ⟨o, h1, h2, h3⟩ rfl (post_val_or_str ⟨Nat.le_trans (Txt.slice_le z _ _) hz, fin⟩)
end L2
/-! zip of two iterables of the same length; xs[i] op= v; products of large numbers. -/
namespace L2
open PySem PySem.Spec PyProof.Rows
/-! ### the pairs of two -/
structure ZAp (z TI TO i1 i2 : Addr) (f1 f2 : List Addr) : Prop where
  a1 : TI ≠ z
  a2 : TO ≠ z
  a3 : i1 ≠ z
  a4 : i2 ≠ z
  a5 : TI ≠ TO
  a6 : TI ≠ i1
  a7 : TI ≠ i2
  a8 : TO ≠ i1
  a9 : TO ≠ i2
  a10 : i1 ≠ i2
  z1 : z ∉ f1
  z2 : z ∉ f2
  o1 : TO ∉ f1
  o2 : TO ∉ f2
  j1 : i2 ∉ f1
  j2 : i1 ∉ f2
section
variable {prog : Program} {w : World} {A : Around} {E : Value → Shared → Prop} {s : Shared} {z TI TO i1 i2 : Addr} {f1 f2 : List Addr} {n i : Nat} {P1 P2 : Nat → Value → Prop} {S1 S2 : Nat → Heap → Prop} {a b : Value}
end
/-! ### the heap behind a turn -/
section
variable {X : Cx} {pins : List (Addr × Obj)} {σ : St} {H : Hp} {s : Shared}
end
/-! ### what is zipped: a list or a text -/
inductive Zs where
  | lst (a : Addr)
  | str (z : Str)
def Zs.at (K : PySem.W.Frag) : Zs → Nat → Hp → V → Prop
  | .lst a, i, H, x => ∀ xs, SqL K H a xs → xs[i]? = some x
  | .str z, i, _, x => ∃ c, z.cps[i]? = some c ∧ x = .str ⟨#[c]⟩
def Zs.len (K : PySem.W.Frag) : Zs → Hp → Nat → Prop
  | .lst a, H, n => ∃ xs, SqL K H a xs ∧ xs.length = n
  | .str z, _, n => z.cps.size = n
def Zs.tn (t : Tok) (it : Addr) : Zs → Nat → Heap → Prop
  | .lst a, i, h => h.IsListIter it a i
  | .str z, i, h => h.IsStrIter it (strIterType z) z t i
theorem Zs.keep {S : Zs} {t : Tok} {it : Addr} {i : Nat} {h h' : Heap} (q : S.tn t it i h) (k : ∀ o, h.get? it = some o → h'.get? it = some o) : S.tn t it i h' := by
  cases S with
  | lst a => exact Heap.IsListIter.at q k
  | str z => exact let ⟨o, e, r⟩ := q; ⟨o, k o e, r⟩
theorem Zs.ob {S : Zs} {t : Tok} {it : Addr} {i : Nat} {h : Heap} (q : S.tn t it i h) : ∃ o, h.get? it = some o ∧ (∀ v, o.data ≠ .cell v) ∧ o.cls ≠ .type "list" := by
  cases S with
  | lst a =>
    obtain ⟨o, e, c, d⟩ := q
    exact ⟨o, e, (fun v y => by rw [d] at y; cases y), by rw [c]; decide⟩
  | str z =>
    obtain ⟨o, e, c, d⟩ := q
    refine ⟨o, e, (fun v y => by rw [d] at y; cases y), ?_⟩
    rw [c]
    unfold strIterType
    split <;> decide
structure ZAd (z TI TO i1 i2 : Addr) : Prop where
  a1 : TI ≠ z
  a2 : TO ≠ z
  a3 : i1 ≠ z
  a4 : i2 ≠ z
  a5 : TI ≠ TO
  a6 : TI ≠ i1
  a7 : TI ≠ i2
  a8 : TO ≠ i1
  a9 : TO ≠ i2
  a10 : i1 ≠ i2
/-! ### zip(a, b) -/
def Zs.val (H : Hp) (K : PySem.W.Frag) : Zs → V → Prop
  | .lst a, v => v = .ref a ∧ ∃ xs, SqL K H a xs
  | .str z, v => v = .str z
def Zs.new : Zs → Tok → Obj
  | .lst a, _ => { cls := .type "list_iterator", data := .fields #[.ref a, .int 0 0] }
  | .str z, t => { cls := .type (strIterType z), data := .fields #[.str z t, .int 0 0] }
/-- the value of one that is zipped -/
def Zs.is (S : Zs) (t : Tok) (h : Heap) (v : Value) : Prop := match S with
  | .lst a => v = .ref a ∧ ∃ its, h.IsList a its
  | .str z => v = .str z t
theorem Zs.iter {prog : Program} {w : World} {A : Around} {E : Value → Shared → Prop} {s : Shared} {S : Zs} {t : Tok} {v : Value} {Q : Value → Shared → Prop} (h : S.is t s.heap v) (q : Q (.ref s.heap.objs.size) { s with heap := s.heap.push (S.new t) }) : wpAny (model prog w) A (pyIter v) Q E s := by
  cases S with
  | lst a =>
    obtain ⟨rfl, its, hl⟩ := h
    exact wpAny_pyIter_list hl q
  | str z =>
    have h : v = .str z t := h
    subst h
    have q : Q (.ref s.heap.objs.size) { s with heap := s.heap.push { cls := .type (strIterType z), data := .fields #[.str z t, .int 0 0] } } := q
    cases ha : z.cps.all (· < 128)
    · have e : strIterType z = "str_iterator" := by unfold strIterType; rw [ha]; rfl
      rw [e] at q
      exact wpAny_pyIter_wide ha q
    · have e : strIterType z = "str_ascii_iterator" := by unfold strIterType; rw [ha]; rfl
      rw [e] at q
      exact wpAny_pyIter_ascii ha q
section
variable {X : Cx} {elts : List Expr} {x1 : Nat} {tp : Pos}
end
/-! ### the forms one uses -/
/-! ### xs[i] ahead of xs[i] op= v -/
/-! ### products -/
end L2
/-! Pairs compared; a text from its end. -/
namespace L2
open PySem PySem.Spec PyProof.Rows
def SmV (K : PySem.W.Frag) (H : Hp) (u v : V) (e : Bool) : Prop := (flatV u = true ∧ flatV v = true ∧ e = eqV u v) ∨ ∃ (a b : Addr) (ns ms : List Int), u = .ref a ∧ v = .ref b ∧ SqL K H a (ns.map V.int) ∧ SqL K H b (ms.map V.int) ∧ e = decide (ns = ms)
theorem SmV.at {X : Cx} {pins : List (Addr × Obj)} {σ : St} {H : Hp} {s : Shared} {A : Around} {u v : V} {x y : Value} {e : Bool} (I : Inv X pins σ H s) (h : SmV X.K H u v e) (ru : RelV u x) (rv : RelV v y) (hu : A.units < cLine) : SeqAt.EqAt A s x y e := by
  rcases h with ⟨f1, f2, rfl⟩ | ⟨a, b, ns, ms, rfl, rfl, h1, h2, rfl⟩
  · exact eqAt_V ru rv f1 f2
  · cases ru
    cases rv
    obtain ⟨its, r1, p1, _⟩ := I.list h1
    obtain ⟨its2, r2, p2, _⟩ := I.list h2
    by_cases c : a = b
    · subst c
      have := I.list_inj h1 h2
      have : ns = ms := (List.map_inj_right fun x y e => V.int.inj e).mp this
      rw [decide_eq_true this]
      exact SeqAt.EqAt.same _
    · refine SeqAt.EqAt.of_refs c ?_
      by_cases hl : ns.length = ms.length
      · have l1 := r1.length
        have l2 := r2.length
        rw [List.length_map] at l1 l2
        have := SeqAt.RcAt.lists p1.isList p2.isList (by simp only [List.size_toArray]; omega) hu (eqAt_ints r1 r2)
        rw [List.size_toArray, ← l1, all_same hl] at this
        exact this
      · obtain ⟨c1, c2⟩ := len_ne r1 r2 hl
        rw [c2]
        exact SeqAt.RcAt.lists_lengths p1.isList p2.isList c1 hu
def rPr (K : PySem.W.Frag) (neg : Bool) : R2 := fun x y H Q => ∃ (a b : Addr) (u1 u2 v1 v2 : V) (e1 e2 : Bool), x = .ref a ∧ y = .ref b ∧ SqT K H a [u1, u2] ∧ SqT K H b [v1, v2] ∧ SmV K H u1 v1 e1 ∧ SmV K H u2 v2 e2 ∧ Q (.bl (if neg then !(e1 && e2) else (e1 && e2))) H
theorem pair_at {X : Cx} {pins : List (Addr × Obj)} {σ : St} {H : Hp} {s : Shared} {A : Around} {u1 u2 v1 v2 : V} {its its2 : List Value} {e1 e2 : Bool} (I : Inv X pins σ H s) (r1 : Vals [u1, u2] its) (r2 : Vals [v1, v2] its2) (h1 : SmV X.K H u1 v1 e1) (h2 : SmV X.K H u2 v2 e2) (hu : A.units < cLine) :
    ∀ (j : Nat) (g1 : j < its.toArray.size) (g2 : j < its2.toArray.size), SeqAt.EqAt A s its.toArray[j] its2.toArray[j] (if j = 0 then e1 else e2) := by
  obtain ⟨x1, x2, rfl, a1, a2⟩ := vals2 r1
  obtain ⟨y1, y2, rfl, b1, b2⟩ := vals2 r2
  intro j g1 g2
  have g1 : j < 2 := by simpa using g1
  match j, g1 with
  | 0, _ => exact SmV.at I h1 a1 b1 hu
  | 1, _ => exact SmV.at I h2 a2 b2 hu
theorem pair_all (e1 e2 : Bool) {its its2 : List Value} {u1 u2 v1 v2 : V} (r1 : Vals [u1, u2] its) (r2 : Vals [v1, v2] its2) : ((List.range (min its.toArray.size its2.toArray.size)).all (fun j => if j = 0 then e1 else e2) && its.toArray.size == its2.toArray.size) = (e1 && e2) := by
  obtain ⟨x1, x2, rfl, a1, a2⟩ := vals2 r1
  obtain ⟨y1, y2, rfl, b1, b2⟩ := vals2 r2
  show ((List.range 2).all _ && true) = _
  cases e1 <;> cases e2 <;> rfl
theorem op_eqP {X : Cx} (hu : X.A.units + 1 < cLine) : OpR X (compareOp .Eq) (rPr X.K false) := by
  intro pins s σ H x y v u Q I rx ry h
  obtain ⟨a, b, u1, u2, v1, v2, e1, e2, rfl, rfl, h1, h2, m1, m2, q⟩ := h
  cases rx
  cases ry
  obtain ⟨its, r1, p1, _⟩ := I.tuple h1
  obtain ⟨its2, r2, p2, _⟩ := I.tuple h2
  refine SeqAt.eq_tupleAt p1 p2 (by omega) (pair_at I r1 r2 m1 m2 hu) ?_
  rw [pair_all e1 e2 r1 r2]
  exact ⟨.bl (e1 && e2), H, I, rfl, q⟩
theorem op_neP {X : Cx} (hu : X.A.units + 1 < cLine) : OpR X (compareOp .NotEq) (rPr X.K true) := by
  intro pins s σ H x y v u Q I rx ry h
  obtain ⟨a, b, u1, u2, v1, v2, e1, e2, rfl, rfl, h1, h2, m1, m2, q⟩ := h
  cases rx
  cases ry
  obtain ⟨its, r1, p1, _⟩ := I.tuple h1
  obtain ⟨its2, r2, p2, _⟩ := I.tuple h2
  refine (SeqAt.RcNeAt.tuples p1 p2 (by omega) (pair_at I r1 r2 m1 m2 hu)) X.prog X.w X.xe _ ?_
  rw [pair_all e1 e2 r1 r2]
  exact ⟨.bl (!(e1 && e2)), H, I, rfl, q⟩
/-! ### z[::-1] -/
end L2
/-! A set of a list's ints and its size; range(0, n, 2). -/
namespace L2
open PySem PySem.Spec PyProof.Rows
/-! ### every second number -/
section
variable {X : Cx} {tg : Expr}
end
end L2
/-! Long displays: readings behind a wrapper that the elaborator does not look through. -/
namespace L2
open PySem PySem.Spec PyProof.Rows
structure QE (X : Cx) (e : Expr) (t : TE) : Prop where
  get : PE X e t
structure QA (X : Cx) (es : List Expr) (t : TA) : Prop where
  get : PA X es t
section
variable {X : Cx} {es : List Expr} {te : TE} {t : TA}
theorem gE {e : Expr} (h : QE X e te) : PE X e te := h.get
theorem qI {i : Int} {j : Nat} {p : Pos} : QE X (.Constant (.int i) j p) (tC (.int i)) := ⟨pe_int⟩
theorem qS {x : Str} {j : Nat} {p : Pos} : QE X (.Constant (.str x) j p) (tC (.str x)) := ⟨pe_str⟩
theorem qO {j : Nat} {p : Pos} : QE X (.Constant .none j p) (tC .non) := ⟨pe_non⟩
theorem qY {b : Bool} {j : Nat} {p : Pos} : QE X (.Constant (.bool b) j p) (tC (.bl b)) := ⟨pe_bl⟩
theorem q0 : QA X [] tNil := ⟨pa_nil⟩
theorem qaC {c : Const} {j : Nat} {p : Pos} (ha : QE X (.Constant c j p) te) (hr : QA X es t) : QA X (.Constant c j p :: es) (tCons te t) := ⟨pa_cons ha.get hr.get rfl⟩
theorem qaN {x : Str} {p : Pos} (ha : QE X (.Name x p) te) (hr : QA X es t) : QA X (.Name x p :: es) (tCons te t) := ⟨pa_cons ha.get hr.get rfl⟩
theorem qaL {l : List Expr} {p : Pos} (ha : QE X (.List l p) te) (hr : QA X es t) : QA X (.List l p :: es) (tCons te t) := ⟨pa_cons ha.get hr.get rfl⟩
theorem qaB {a b : Expr} {o : Operator} {p : Pos} (ha : QE X (.BinOp a o b p) te) (hr : QA X es t) : QA X (.BinOp a o b p :: es) (tCons te t) := ⟨pa_cons ha.get hr.get rfl⟩
theorem qaF {a : Expr} {l : List Expr} {k : List Keyword} {p : Pos} (ha : QE X (.Call a l k p) te) (hr : QA X es t) : QA X (.Call a l k p :: es) (tCons te t) := ⟨pa_cons ha.get hr.get rfl⟩
theorem qL {p : Pos} (h : QA X es t) : QE X (.List es p) (tLst t) := ⟨pe_lst h.get⟩
theorem qT {j : Nat} {p : Pos} (h : QA X es t) : QE X (.Tuple es j p) (tTup t) := ⟨pe_tup h.get⟩
theorem qOp {a b : Expr} {o : Operator} {p : Pos} {ta tb : TE} {r : R2} (ho : OpR X (binaryOp o) r) (ha : QE X a ta) (hb : QE X b tb) : QE X (.BinOp a o b p) (tOp r ta tb) := ⟨pe_op ho ha.get hb.get⟩
theorem qIx {a b : Expr} {p : Pos} {ta tb : TE} {r : R2} (hr : IxR X r) (ha : QE X a ta) (hb : QE X b tb) (hs : PlainIx b) : QE X (.Subscript a b p) (tOp r ta tb) := ⟨pe_ix hr ha.get hb.get hs⟩
end
structure QS (X : Cx) (st : Stmt) (t : TS) : Prop where
  get : PS X st t
structure QSs (X : Cx) (sts : List Stmt) (t : TS) : Prop where
  get : PSs X sts t
section
variable {X : Cx} {st : Stmt} {rest : List Stmt} {t u : TS} {e : Expr} {te : TE} {pos : Pos}
theorem gSs {sts : List Stmt} (h : QSs X sts t) : PSs X sts t := h.get
theorem qCons (h1 : QS X st t) (h2 : QSs X rest u) : QSs X (st :: rest) (tSeq t u) := ⟨pss_cons h1.get h2.get⟩
theorem qOne (h1 : QS X st t) : QSs X [st] t := ⟨pss_one h1.get⟩
theorem qNil : QSs X [] (fun D σ H => D.nx σ H) := ⟨pss_nil⟩
theorem qIf {c : Expr} {a b : List Stmt} {tc : TT} (hc : PT X c tc) (ha : QSs X a t) (hb : QSs X b u) : QS X (.If c a b pos) (tIfS tc t u) := ⟨ps_if hc ha.get hb.get⟩
theorem qRet (he : QE X e te) : QS X (.Return (some e) pos) (tRet te) := ⟨ps_ret he.get⟩
theorem qSet {i : Nat} {x : Str} {pos' : Pos} (hN : X.N.Nodup) (hi : X.N[i]? = some x) (hx : Loc X.env.scope x) (he : QE X e te) (hs : swapsWith e (some (.Name x pos')) pos.line X.env = pure false) (hf : X.fn x = true ∨ X.env.scope.names.lookup x = some .local) :
    QS X (.Assign [.Name x pos'] e pos) (tAsg te (gName i)) := ⟨ps_set hN hi hx he.get hs hf⟩
end
end L2
/-! Texts cut and put together: split, endswith, str of a number, the number that a text writes, a field. -/
namespace L2
open PySem PySem.Spec PyProof.Rows
section
variable {X : Cx}
theorem vals_texts : ∀ (l : List (Str × Tok)), Vals ((l.map (·.1)).map V.str) (strValues l)
  | [] => .nil
  | (_, t) :: l => .cons ⟨t, rfl⟩ (vals_texts l)
def rSplit : V → List V → Hp → VK → Prop := fun x vs H Q => ∃ (z y : Str), x = .str z ∧ vs = [.str y] ∧ (y.length == 0) = false ∧ z.length + 2 ≤ sizeLine ∧ ∀ l, H l = none → Q (.ref l) (upd H l (.lst ((Txt.split z y).map V.str)))
theorem mt_split : MtR X "str.split" rSplit := by
  intro pins s σ H x xs v us Q I rx rv h
  obtain ⟨z, y, rfl, rfl, hy, hz, q⟩ := h
  obtain ⟨t, rfl⟩ := rx
  obtain ⟨u0, rfl, ru⟩ := vals1 rv
  obtain ⟨u, rfl⟩ := ru
  have y1 : 1 ≤ y.length := by
    have : y.length ≠ 0 := by simpa using hy
    omega
  have parts : (Builtin.Str.partsBetween z (Builtin.Str.occurrences z y 0 z.length (z.length + 1)) y.length).length ≤ sizeLine := by
    rw [length_partsBetween]
    have := StrLaws.occ_length_le z y 0 z.length (z.length + 1)
    omega
  have few : ((Txt.split z y).map V.str).length ≤ sizeLine := by
    rw [List.length_map]
    have := split_weight z y y1
    omega
  have fin : ∀ (l : List (Str × Tok)) (k : Nat), l.map (·.1) = Txt.split z y → EP X pins σ Q (.ref s.heap.objs.size) { s with heap := s.heap.push { cls := .type "list", data := .seq (strValues l).toArray }, toks := k } := fun l k e =>
    ⟨.ref s.heap.objs.size, _, I.lnew (by have hv := vals_texts l; rw [e] at hv; exact hv) few, rfl, q _ I.fresh⟩
  by_cases c1 : (decide (z.length < y.length) || decide (Builtin.Str.strKind z < Builtin.Str.strKind y)) = true
  · exact call_meets F.slot_str_split (typeIs_str _ _ _) F.entry_str_split (F.args_str_split_2 _ _)
      (meets_str_split_cannot_occur z y t u c1) (fin [(z, t)] s.toks (if_pos c1).symm)
  have c1 := eq_false_of_ne_true c1
  by_cases c2 : (Builtin.Str.occurrences z y 0 z.length (z.length + 1)).isEmpty = true
  · exact call_meets F.slot_str_split (typeIs_str _ _ _) F.entry_str_split (F.args_str_split_2 _ _)
      (meets_str_split_not_found z y t u c1 hy c2) (fin [(z, t)] s.toks (by unfold Txt.split; rw [if_neg (by rw [c1]; exact Bool.false_ne_true), if_pos c2]; rfl))
  have c2 := eq_false_of_ne_true c2
  refine call_meets F.slot_str_split (typeIs_str _ _ _) F.entry_str_split (F.args_str_split_2 _ _)
    (meets_str_split_sep z y t u c1 hy c2 (by omega) parts) ?_
  have g := fin (numbered s.toks (Builtin.Str.partsBetween z (Builtin.Str.occurrences z y 0 z.length (z.length + 1)) y.length)) (s.toks + (Builtin.Str.partsBetween z (Builtin.Str.occurrences z y 0 z.length (z.length + 1)) y.length).length) (by
    rw [numbered_texts]
    unfold Txt.split
    rw [if_neg (by rw [c1]; exact Bool.false_ne_true), if_neg (by rw [c2]; exact Bool.false_ne_true)])
  rw [← strsFrom_eq] at g
  exact g
def rEnds : V → List V → Hp → VK → Prop := fun x vs H Q => ∃ (z y : Str), x = .str z ∧ vs = [.str y] ∧ Q (.bl (Txt.endswith z y)) H
theorem mt_ends : MtR X "str.endswith" rEnds := by
  intro pins s σ H x xs v us Q I rx rv h
  obtain ⟨z, y, rfl, rfl, q⟩ := h
  obtain ⟨t, rfl⟩ := rx
  obtain ⟨u0, rfl, ru⟩ := vals1 rv
  obtain ⟨u, rfl⟩ := ru
  exact SC.endswith ⟨.bl _, H, I, rfl, q⟩
/-- a number's figures -/
def numT (n : Int) : Str := Str.ofString (toString n)
def rStrI : List V → Hp → VK → Prop := fun xs H Q => ∃ n : Int, xs = [.int n] ∧ n.natAbs.log2 < 1920 ∧ Q (.str (numT n)) H
theorem call_strI : CallR X (.type "str") rStrI := by
  intro pins s σ H xs us Q I r h
  obtain ⟨n, rfl, hn, q⟩ := h
  obtain ⟨u, rfl, ru⟩ := vals1 r
  obtain ⟨t, rfl⟩ := ru
  exact P.str_of_int hn ⟨.str (numT n), H, I.tok _, ⟨s.toks, rfl⟩, q⟩
def rIntT : List V → Hp → VK → Prop := fun xs H Q => ∃ (z : Str) (n : Int), xs = [.str z] ∧ z.length ≤ 640 ∧ PySem.intText? z = some n ∧ Q (.int n) H
theorem call_intT : CallR X (.type "int") rIntT := by
  intro pins s σ H xs us Q I r h
  obtain ⟨z, n, rfl, hz, hn, q⟩ := h
  obtain ⟨u, rfl, ru⟩ := vals1 r
  obtain ⟨t, rfl⟩ := ru
  exact PySem.W.KIN.call_text hn hz ⟨.int n, H, I.tok _, ⟨s.toks, rfl⟩, q⟩
/-- f"{a}z": a number and a text behind it -/
def tFld1 (ta : TE) (z : Str) : TE := fun σ H Q => ta σ H fun x H1 => ∃ n : Int, x = .int n ∧ n.natAbs.log2 < 1920 ∧ (numT n).length + z.length ≤ sizeLine ∧ Q (.str (numT n ++ z)) H1
theorem pe_fld1 {a : Expr} {ta : TE} {z : Str} {j : Nat} {p1 p2 pos : Pos} (ha : PE X a ta) : PE X (.JoinedStr [.FormattedValue a (-1) none p1, .Constant (.str z) j p2] pos) (tFld1 ta z) := by
  intro pins s σ H Q I h
  refine JoinedStr_many (joinParts_cons (wpAny_FormattedValue_plain (thn (ha pins s σ H _ I h) fun v s1 ⟨x, H1, I1, r1, n, e, hn, hz, q⟩ => ?_)))
  subst e
  obtain ⟨t, rfl⟩ := r1
  refine wpAny_formatField_int hn ⟨?_, ?_⟩
  · have e : (Str.empty ++ numT n).length = (numT n).length := by rw [Str.length_append]; show 0 + _ = _; omega
    show (Str.empty ++ numT n).length ≤ sizeLine
    rw [e]
    omega
  have e : Str.empty ++ numT n = numT n := by
    show (⟨#[] ++ (numT n).cps⟩ : Str) = numT n
    rw [Array.empty_append]
  show wpAny _ _ (joinParts (Str.empty ++ numT n) _) _ _ _
  rw [e]
  refine joinParts_cons ?_
  have hc : PE X (.Constant (.str z) j p2) (tC (.str z)) := pe_str
  refine thn (hc pins _ σ H1 (fun y H2 => y = .str z ∧ H2 = H1) (I1.tok _) ⟨rfl, rfl⟩) fun v2 s2 ⟨y, H2, I2, r2, e2, e3⟩ => ?_
  subst e2 e3
  obtain ⟨t2, rfl⟩ := r2
  refine ⟨by rw [Str.length_append]; exact hz, joinParts_nil ⟨.str (numT n ++ z), H2, I2.tok _, ⟨_, rfl⟩, q⟩ (by rw [Str.length_append]; exact hz)⟩
end
end L2
/-! An exception out of a comprehension's block. -/
namespace L2
open PySem PySem.Spec PyProof.Rows
section
variable {M : Model} {A : Around} {E : Value → Shared → Prop} {s : Shared} {B : Heap} {env : Env} {outer l : List Env} {L e : Addr} {cls fl : Value} {Q : Unit → Shared → Prop}
theorem note_any (fr : A.frames = some (env :: outer)) (hf : env.frame = some L) (x : Fl B (env :: outer) e cls fl s.heap) (k : ∀ h', Fl B (env :: outer) e cls (rawInt L) h' → s.heap.UpToSlots h' → Q () { s with heap := h' }) :
    wpAny M A (noteFrame (.ref e) env) Q E s := by
  by_cases c : fl = rawInt L
  · subst c
    exact note_again hf x (k _ x (Heap.UpToSlots.refl _))
  obtain ⟨st, ne, ff, oe, vs, T, oT, ts, he, hc, hdn, hd, h1, h2, hB, hTe, hT, hdT, h3⟩ := x
  subst hc
  unfold noteFrame
  simp only [hf]
  refine wpAny_bind (wpAny_field he hd h1 ?_)
  rw [if_pos (by simp)]
  refine wpAny_bind (wpAny_field hT hdT h3 ?_)
  rw [if_neg (by simpa using c)]
  refine wpAny_bind (wpAny_setField hT hdT (Array.getElem?_eq_some_iff.mp h3).1 ?_)
  have oth : ∀ b, b ≠ T → (s.heap.update T (Obj.mapFields (·.setIfInBounds 3 Value.none))).get? b = s.heap.get? b := fun b hb => Heap.get?_update_other _ _ (Ne.symm hb)
  have hnr : ∀ b o, s.heap.get? b = some o → (∀ vs, o.data ≠ .fields vs) → b ≠ T := fun b o hb nf z => by
    subst z
    rw [hT] at hb
    cases hb
    exact nf ts hdT
  refine entry_on fr hf (fun b o hb => (oth b fun z => by subst z; rw [hB] at hb; cases hb).trans (st b o hb)) ne (ff.of_keeps fun b o hb nf => ⟨o, (oth b (hnr b o hb nf)).trans hb, rfl⟩) ((oth e (Ne.symm hTe)).trans he) hdn hd (Array.getElem?_eq_some_iff.mp h1).1 h2 fun h' y up => k h' y fun b o hb nf => ?_
  exact up b o ((oth b (hnr b o hb nf)).trans hb) nf
theorem leave_any (fr : A.frames = some (env :: outer)) (hf : env.frame = some L) (x : Fl B (env :: outer) e cls fl s.heap) (k : ∀ h', Fl B outer e cls .none h' → s.heap.UpToSlots h' → Q () { s with heap := h' }) : wpAny M A (leaving env (.ref e)) Q E s := by
  unfold leaving
  exact wpAny_bind (note_any fr hf x fun h1 x1 u1 => flight_off x1 fun h2 x2 u2 => k h2 ⟨x2.st, x2.ne, x2.ff.2.2, x2.ob⟩ (u1.trans u2))
theorem flight_to (o : Option Addr) (x : Fl B l e cls fl s.heap) (k : ∀ fl' h', Fl B l e cls fl' h' → s.heap.UpToSlots h' → Q () { s with heap := h' }) : wpAny M A (setFlight (.ref e) o) Q E s := by
  cases o with
  | none => exact flight_off x fun h' => k _ h'
  | some L' => exact flight_on x fun h' => k _ h'
theorem note_env {env' : Env} (h : env'.frame = env.frame) (v : Value) : noteFrame v env' = noteFrame v env := by
  unfold noteFrame PySem.frameOf
  rw [h]
end
/-- within a def's body: made, or come from a callee or a block -/
def XE2 (P : Program) (w : World) (env : Env) (outer : List Env) (H0 : Hp) (s0 : Shared) (E : XK) : Value → Shared → Prop := fun e s' => ∃ a cls B H1 h1 H', e = .ref a ∧ s'.os = s0.os ∧ AllBare s'.gens ∧ Un (frs outer) [] H0 H1 s0.heap h1 ∧ (∀ b ∈ frs (env :: outer), H1 b = none) ∧
  Fy P w (env :: outer) H1 H' h1 s'.heap B a ∧ E cls none H' ∧ (New B a cls s'.heap ∨ ∃ fl, Fl B (env :: outer) a cls fl s'.heap)
/-- within the block whose names lie at C -/
def XC2 (P : Program) (w : World) (env : Env) (outer : List Env) (H0 : Hp) (s0 : Shared) (E : XK) (C : Addr) : Value → Shared → Prop := fun e s' => ∃ a cls B H1 h1 H', e = .ref a ∧ s'.os = s0.os ∧ AllBare s'.gens ∧ Un (frs outer) [] H0 H1 s0.heap h1 ∧ (∀ b ∈ frs (env :: outer), H1 b = none) ∧
  Fy P w (env :: outer) H1 H' h1 s'.heap B a ∧ E cls none H' ∧ (∃ fl, Fl B (env :: outer) a cls fl s'.heap) ∧ (∃ o, h1.get? C = some o) ∧ H1 C = none ∧ (∃ m, s'.heap.Ns C m) ∧ C ∉ frs (env :: outer) ∧ s0.heap.objs.size ≤ C
theorem hide_ne {h : Heap} {C b : Addr} {o : Obj} (q : (PySem.W.hideAll h [C]).get? b = some o) : b ≠ C := fun z => by
  have := PySem.W.hideAll_none [C] (h := h) (b := b) (by rw [z]; exact List.mem_singleton.mpr rfl)
  rw [this] at q
  cases q
theorem hide_on {h : Heap} {C b : Addr} {o : Obj} (q : h.get? b = some o) (n : b ≠ C) : (PySem.W.hideAll h [C]).get? b = some o := PySem.W.hideAll_get _ q fun m => n (List.mem_singleton.mp m)
theorem ff_hide {h h' B : Heap} {C : Addr} (sb : Heap.SameBut C h h') : ∀ {l : List Env}, h.FunFrames B l → C ∉ frs l → h'.FunFrames (PySem.W.hideAll B [C]) l
  | [], f, _ => f
  | env :: r, ⟨f1, ⟨L, o, f2, f3, f4, f5⟩, f6⟩, n => by
    have mem : L ∈ frs (env :: r) := List.mem_filterMap.mpr ⟨env, List.mem_cons_self, f2⟩
    refine ⟨f1, ⟨L, o, f2, ?_, sb.extBut L o (fun z => n (z ▸ mem)) f4, f5⟩, ff_hide sb f6 fun m => n ?_⟩
    · cases z : (PySem.W.hideAll B [C]).get? L with
      | none => rfl
      | some o' =>
        have := PySem.W.of_hideAll _ z
        rw [f3] at this
        cases this
    · obtain ⟨e, m1, m2⟩ := List.mem_filterMap.mp m
      exact List.mem_filterMap.mpr ⟨e, List.mem_cons_of_mem _ m1, m2⟩
theorem XC2.go {P : Program} {w : World} {env : Env} {outer : List Env} {H0 : Hp} {s0 : Shared} {E : XK} {C : Addr} {e : Value} {s' : Shared} (x : XC2 P w env outer H0 s0 E C e s') {h2 : Heap} (sb : Heap.SameBut C s'.heap h2) :
    ∃ a cls B H1 h1 H', e = .ref a ∧ s'.os = s0.os ∧ AllBare s'.gens ∧ Un (frs outer) [] H0 H1 s0.heap h1 ∧ (∀ b ∈ frs (env :: outer), H1 b = none) ∧ Fy P w (env :: outer) H1 H' h1 h2 B a ∧ E cls none H' ∧ ∃ fl, Fl B (env :: outer) a cls fl h2 := by
  obtain ⟨a, cls, B, H1, h1, H', rfl, os, bare, bs, fre, y, q, ⟨fl, f⟩, ⟨oC, hC⟩, nC, _, nf, hz⟩ := x
  obtain ⟨oB, hB⟩ := y.has C oC hC nf
  have nC' : H' C = none := y.un.free C oC hC nC (by simp)
  have old : ∀ b o, s0.heap.get? b = some o → b ≠ C := fun b o q => adr_ne (Heap.lt_size q) hz
  have ff := ff_hide sb y.ff nf
  have f2 : Fl (PySem.W.hideAll B [C]) (env :: outer) a cls fl h2 := by
    obtain ⟨oe, vs, T, oT, ts, g1, g2, g3, g4, g5, g6, g7, g8, g9, g10, g11⟩ := f.ob
    refine ⟨fun b o q => sb.extBut b o (hide_ne q) (f.st b o (PySem.W.of_hideAll _ q)), ?_, ff, oe, vs, T, oT, ts, sb.extBut _ _ (fun z => ?_) g1, g2, g3, g4, g5, g6, ?_, g8, sb.extBut _ _ (fun z => ?_) g9, g10, g11⟩
    · cases z : (PySem.W.hideAll B [C]).get? a with
      | none => rfl
      | some o =>
        have := PySem.W.of_hideAll _ z
        rw [f.ne] at this
        cases this
    · have := f.ne
      rw [z, hB] at this
      cases this
    · cases z : (PySem.W.hideAll B [C]).get? T with
      | none => rfl
      | some o =>
        have := PySem.W.of_hideAll _ z
        rw [g7] at this
        cases this
    · rw [z, hB] at g7
      cases g7
  refine ⟨a, cls, PySem.W.hideAll B [C], H1, PySem.W.hideAll h1 [C], H', rfl, os, bare, ⟨fun b o q n hb hx => hide_on (bs.keep b o q n hb hx) (old b o q), fun b o q n hb hx => ?_, bs.free, fun b o q hx => ?_, bs.tups, bs.frzs, bs.tbls⟩, fre,
    ⟨⟨fun b o q n hb hx => sb.extBut b o (hide_ne q) (y.un.keep b o (PySem.W.of_hideAll _ q) n hb hx), fun b o q n hb hx => ?_, fun b o q n hx => y.un.free b o (PySem.W.of_hideAll _ q) n hx, fun b o q hx => ?_, y.un.tups, y.un.frzs, y.un.tbls⟩, fun b o q => ?_, ff, fun b o q n hb => hide_on (y.kept b o (PySem.W.of_hideAll _ q) n hb) (hide_ne q), fun b o q n => ?_, fun b o q hb => ?_, y.nt⟩, q, fl, f2⟩
  · obtain ⟨sl, z⟩ := bs.slot b o q n hb hx
    exact ⟨sl, hide_on z (old b o q)⟩
  · obtain ⟨o', z⟩ := bs.there b o q hx
    exact ⟨o', hide_on z (old b o q)⟩
  · obtain ⟨sl, z⟩ := y.un.slot b o (PySem.W.of_hideAll _ q) n hb hx
    exact ⟨sl, sb.extBut b _ (hide_ne q) z⟩
  · obtain ⟨o', z⟩ := y.un.there b o (PySem.W.of_hideAll _ q) hx
    exact ⟨o', sb.extBut b _ (hide_ne q) z⟩
  · refine (y.hok b o q).stay (fun c v hc z => sb.extBut c v (fun r => ?_) z) (fun _ z => z) fun _ _ z => z
    subst r
    rcases hc with rfl | hc
    · rw [nC'] at q
      cases q
    · rw [nC'] at hc
      cases hc
  · have bC : b ≠ C := fun z => n (by rw [z]; exact nC')
    cases e : H' b with
    | none => exact absurd e n
    | some o1 =>
      obtain ⟨v, ev⟩ := (y.hok b o1 e).ob
      have e2 := sb.extBut b v bC ev
      rw [q] at e2
      cases e2
      exact hide_on (y.trk b _ ev n) bC
  · obtain ⟨o', z⟩ := y.has b o (PySem.W.of_hideAll _ q) hb
    exact ⟨o', hide_on z (hide_ne q)⟩
section
variable {P : Program} {w : World} {K : PySem.W.Frag} {mg : Str → Option Value} {base : Heap} {N : List Str} {qual : Str} {scope : Scope} {f : Addr} {cd : Value} {A : Around} {outer : List Env} {s : Shared} {H : Hp} {E E' : XK}
/-- the context of the body of a def that may raise, also out of a block -/
abbrev cxM (P : Program) (w : World) (K : PySem.W.Frag) (mg : Str → Option Value) (base : Heap) (N : List Str) (qual : Str) (scope : Scope) (f : Addr) (cd : Value) (A : Around) (outer : List Env) (s : Shared) (H : Hp) (E : XK) : Cx :=
  (cxOf (CX1 P w) P w K mg base N qual scope f cd A outer s H E).wish (XE2 P w (envOfC qual scope s.heap.objs.size f cd) outer H s E)
theorem xe2_leaves (frf : ∀ b ∈ frs outer, H b = none) (fr : (A.deeper (envOfC qual scope s.heap.objs.size f cd)).frames = some (envOfC qual scope s.heap.objs.size f cd :: outer)) {e : Value} {s' : Shared} (h : XE2 P w (envOfC qual scope s.heap.objs.size f cd) outer H s E e s') :
    (cxOf (CX1 P w) P w K mg base N qual scope f cd A outer s H E).xe e s' := by
  obtain ⟨a, cls, B, H1, h1, H', rfl, os, bare, bs, fre, y, q, st⟩ := h
  show wpAny (model P w) _ (leaving (envOfC qual scope s.heap.objs.size f cd) (.ref a)) _ _ s'
  have fin : ∀ h2, Fl B outer a cls .none h2 → s'.heap.UpToSlots h2 → CX1 P w outer H s E (.ref a) { s' with heap := h2 } := fun h2 fl2 u => ⟨a, cls, B, H', rfl, os, bare, Fy.on bs y frs_sub (frs_new fun b o q => Nat.ne_of_lt (Heap.lt_size q)) frf fl2 u, fl2, q⟩
  rcases st with st | ⟨fl, st⟩
  · obtain ⟨oe, vs, e1, e2, e3, e4, e5, e6⟩ := st.ob
    subst e2
    exact leave_first fr rfl st.st st.ne y.ff e1 e3 e4 e5 e6 fin
  · exact leave_any fr rfl st fin
theorem passM (h : ∀ c d H', E' c d H' → E c d H') : Passes (CX1 P w) (cxM P w K mg base N qual scope f cd A outer s H E) E' := by
  rintro pins σ H1 s1 e s' I ⟨a, cls, B, H', rfl, os, bare, x, fl, q⟩
  exact ⟨a, cls, B, H1, s1.heap, H', rfl, os.trans I.os, bare, I.base, I.stkFree, x, h _ _ _ q, .inr ⟨_, fl⟩⟩
theorem makesM : Makes (cxM P w K mg base N qual scope f cd A outer s H E) E := by
  intro pins σ H1 s1 h2 e cls vs I hx q
  obtain ⟨t, he, _, _⟩ := hx.there
  have st : (PySem.W.hideAll s1.heap (frs (envOfC qual scope s.heap.objs.size f cd :: outer))).StaysIn s1.heap := fun b o q => PySem.W.of_hideAll _ q
  have ff : s1.heap.FunFrames (PySem.W.hideAll s1.heap (frs (envOfC qual scope s.heap.objs.size f cd :: outer))) (envOfC qual scope s.heap.objs.size f cd :: outer) := PySem.W.funFrames_hide I.stack fun env he b hb => List.mem_filterMap.mpr ⟨env, he, hb⟩
  have ff2 := ff.of_keeps (h' := h2) fun b o hb _ => ⟨o, hx.keeps b o hb, rfl⟩
  have nt : H1 e = none := by
    cases z : H1 e with
    | none => rfl
    | some o =>
      obtain ⟨u, eu⟩ := (I.hok e o z).ob
      have := hx.new
      rw [eu] at this
      cases this
  have ne : (PySem.W.hideAll s1.heap (frs (envOfC qual scope s.heap.objs.size f cd :: outer))).get? e = none := by
    cases z : (PySem.W.hideAll s1.heap (frs (envOfC qual scope s.heap.objs.size f cd :: outer))).get? e with
    | none => rfl
    | some o =>
      have := st e o z
      rw [hx.new] at this
      cases this
  refine ⟨e, cls, _, H1, s1.heap, H1, rfl, I.os, I.bare, I.base, I.stkFree, ⟨Un.kept hx.keeps, I.hok.kept hx.keeps, ff2, fun b o q _ hb => PySem.W.hideAll_get _ q hb, fun b o q n => ?_, fun b o q hb => ⟨o, PySem.W.hideAll_get _ q hb⟩, nt⟩, q, .inl ⟨fun b o q => hx.keeps b o (st b o q), ne, _, _, he, rfl, rfl, rfl, rfl, rfl⟩⟩
  cases z : H1 b with
  | none => exact absurd z n
  | some o1 =>
    obtain ⟨v, ev⟩ := (I.hok b o1 z).ob
    have e2 := hx.keeps b v ev
    rw [q] at e2
    cases e2
    exact PySem.W.hideAll_get _ ev fun m => by have := I.stkFree b m; rw [z] at this; cases this
theorem Src.okM {x : Str} {st : Stmt} {N ps : List Str} {k : Nat} {sp : Sp} (S : Src K mg x st ps) (sc : FnScope N ps (defScope st)) (len : ∀ vs H Q E, sp vs H Q E → vs.length = ps.length)
    (hbody : ∀ (f : Addr) (cdv : Value) (A : Around) (outer : List Env) (s : Shared) (H : Hp) (vs : List V) (Q : VK) (E : XK), Room k (A.deeper (envOfC x (defScope st) s.heap.objs.size f cdv)) → sp vs H Q E →
      ∃ t, PSs (cxM P w K mg base N x (defScope st) f cdv A outer s H E) (defBody st) t ∧ t { nx := fun _ H' => Q .non H', rt := Q } (start N vs) H) : DefX P w K mg base (k + 1) x ps sp := by
  obtain ⟨f, fd, h1, h2, h3⟩ := S.ex
  obtain ⟨oc, od, kV, doc, pm, an, cdv, ct, osl, rfl, lk, hcd⟩ := h2.ex
  refine ⟨f, _, h1, h2.kp, h3, fn_of lk hcd sc len fun A outer s H vs Q E hr hsp => ?_⟩
  obtain ⟨t, hp, ht⟩ := hbody f cdv A outer s H vs Q E hr hsp
  refine ⟨t, fun pins s1 σ H1 D I hw => ?_, ht⟩
  have fr : (A.deeper (envOfC x (defScope st) s.heap.objs.size f cdv)).frames = some (envOfC x (defScope st) s.heap.objs.size f cdv :: outer) := I.ok.frames
  exact wpAny_mono (hp pins s1 σ H1 D (I.wish _) hw) (fun _ _ q => q.unwish) fun e s' z => xe2_leaves I.ok.frf fr z
end
/-! ### the block -/
abbrev cxCompX (X : Cx) (scope : Scope) (C : Addr) (M : List Str) (s : Shared) (H : Hp) (fp : List Addr) (EX : Value → Shared → Prop) : Cx := (cxComp X scope C M s H fp).wish EX
theorem comp_loopX {prog : Program} {w : World} {A : Around} {R : Result → Shared → Prop} {s : Shared} {elt target iter : Expr} {ifs : List Expr} {scope : Scope} {pos : Pos} {it acc : Value} {env : Env} {EX : Value → Shared → Prop} (out : ∀ e s', EX e s' → notedBy (model prog w) A env (fun x s'' => R (.error x) s'') e s') (J : Nat → Shared → Prop)
    (turn : ∀ n s, J n s → wpAny (model prog w) A (pyNext it) (fun r s1 => match r with
      | none => R (.ok .next) s1
      | some v => wpAny (model prog w) A (letOwnedTupleGo target it v) (fun _ s2 => wpAny (model prog w) A (assign target env v) (fun _ s3 =>
          wpAny (model prog w) A (forIn ifs true fun c r => if r = true then do let ok ← isTrue c env (eval c env); pure (ForInStep.yield ok) else pure (ForInStep.yield r)) (fun ok s4 =>
            if ok = true then wpAny (model prog w) A (eval elt env) (fun x s5 => wpAny (model prog w) A (call (.builtin "list.append") [acc, x]) (fun _ s6 => ∃ m, m < n ∧ J m s6) EX s5) EX s4
            else ∃ m, m < n ∧ J m s4) EX s3) EX s2) EX s1) EX s)
    (n : Nat) (h : J n s) : codeAny (model prog w) A (.compLoop (.ListComp elt [⟨target, iter, ifs, 0⟩] scope pos) 0 it acc env) R s := by
  refine codeAny_loop rfl J (fun n s hJ => ?_) n h
  show wpAny _ A ((compTurn (.ListComp elt [⟨target, iter, ifs, 0⟩] scope pos) 0 it acc env).onRaise (fun x => do noteFrame x env; theTreesLotGoes x)) _ _ s
  refine wpAny_noted ?_
  rw [compTurn_list]
  refine wpAny_bind (wpAny_standAt (wpAny_bind (wpAny_mono (turn n s hJ) (fun r s1 h1 => ?_) out)))
  cases r with
  | none => exact wpAny_pure h1
  | some v =>
    refine wpAny_bind (wpAny_mono h1 (fun _ s2 h2 => ?_) out)
    refine wpAny_bind (wpAny_mono h2 (fun _ s3 h3 => ?_) out)
    refine wpAny_bind (wpAny_mono h3 (fun ok s4 h4 => ?_) out)
    cases ok with
    | false => exact wpAny_pure ⟨rfl, h4⟩
    | true =>
      refine wpAny_bind (wpAny_bind (wpAny_mono h4 (fun x s5 h5 => ?_) out))
      exact wpAny_bind (wpAny_mono h5 (fun _ s6 h6 => wpAny_pure (wpAny_pure ⟨rfl, h6⟩)) out)
section
variable {X : Cx} {pins : List (Addr × Obj)} {σ : St} {H : Hp} {s : Shared}
theorem comp_blockX {sc : Scope} {scope : Scope} {M : List Str} {ix : List (Option Nat)} {elt tg iter : Expr} {ifs : List Expr} {pos : Pos} {it : Addr} {fp : List Addr} {tn : Nat → Heap → Prop} {J : It} {g : TG} {tc : TT} {te : TE} {Q : VK}
    {E : Value → Shared → Prop} {RR : Value → Addr → Result → Shared → Prop} (ok : ScOk sc X.N scope M ix) (hsc : X.env.scope = sc) (hcm : X.calm = true) (I : Inv X pins σ H s) (T : Turn X.prog X.w X.K tg J fp it tn) (st : tn 0 s.heap)
    (f2 : ∀ b ∈ fp, FpOk X pins H b) (EX : Addr → Value → Shared → Prop) (hb : ∀ C, s.heap.objs.size ≤ C → (∀ b ∈ fp, b < s.heap.objs.size) → PG (cxCompX X scope C M s H fp (EX C)) tg g ∧ PTs (cxCompX X scope C M s H fp (EX C)) ifs tc ∧ PE (cxCompX X scope C M s H fp (EX C)) elt te)
    (hout : ∀ (D C : Addr) e s', EX C e s' → notedBy (model X.prog X.w) X.A (compEnvC scope (closOf X.env scope.names []) C X.env) (fun x s'' => RR (.ref D) C (.error x) s'') e s') (w : tCompW g tc te J (compSt σ ix) H Q)
    (fin : ∀ (D C : Addr) (s' : Shared) (H' : Hp) (acc : List V), (∃ m, s'.heap.Ns C m) → Inv X pins σ (upd H' D (.lst acc)) s' → upd H' D (.lst acc) C = none → C ≠ X.env.locals → (∀ x c, X.env.cells.lookup x = some c → c ≠ C) →
      (∀ (σ1 : St) (H1 : Hp) (s1 : Shared) (h1 : Heap), Inv X pins σ1 H1 s1 → H1 C = none → Heap.SameBut C s1.heap h1 → Inv X pins σ1 H1 { s1 with heap := h1 }) → Q (.ref D) (upd H' D (.lst acc)) → RR (.ref D) C (.ok .next) s') :
    wpAny (model X.prog X.w) X.A (newList []) (fun acc s3 => wpAny (model X.prog X.w) X.A (newFunctionEnv scope X.env.globals (closOf X.env scope.names []) [] X.env.qual none .none (some X.env)) (fun cenv s4 =>
      codeAny (model X.prog X.w) X.A (.compStart (.ListComp elt [⟨tg, iter, ifs, 0⟩] scope pos) 0 (.ref it) acc { cenv with scope := relabel scope X.env }) (RR acc cenv.locals) s4) E s3) E s := by
  obtain ⟨W, ⟨m0, w0⟩, turn⟩ := w
  refine wpAny_newObj_type (wpAny_newFunctionEnv ok.nocell (by intro y hy; simp at hy) (fun h1 hns hsb => ?_) ok.kind)
  dsimp only at hns hsb ⊢
  generalize hH2 : s.heap.push { cls := .type "list", dict := none, data := .seq ([] : List Value).toArray } = h2 at hns hsb ⊢
  have zC : h2.objs.size = s.heap.objs.size + 1 := by rw [← hH2, Heap.size_push]
  have hCD : h2.objs.size ≠ s.heap.objs.size := by rw [zC]; exact Nat.succ_ne_self _
  have hCge : s.heap.objs.size ≤ h2.objs.size := by rw [zC]; exact Nat.le_succ _
  have old : ∀ b o, s.heap.get? b = some o → h1.get? b = some o := fun b o e => by
    exact hsb.extBut b o (adr_ne (Heap.lt_size e) hCge) (Heap.get?_push_of_some _ (hH2 ▸ Heap.get?_push_of_some _ e))
  have hD1 : h1.get? s.heap.objs.size = some (lob [] 0) := hsb.extBut _ _ (Ne.symm hCD) (Heap.get?_push_of_some _ (hH2 ▸ Heap.get?_push_size _ rfl))
  have flt : ∀ b ∈ fp, b < s.heap.objs.size := fun b hb => by
    obtain ⟨o, e, _⟩ := T.obj _ _ st b hb
    exact Heap.lt_size e
  have cs := cells_of ok hsc I
  have cl : ∀ x c, (closOf X.env scope.names []).lookup x = some c → X.env.cells.lookup x = some c := fun x c e => closOf_some x scope.names [] cs (fun _ z => by simp at z) c e
  have clt : ∀ x c, X.env.cells.lookup x = some c → c < s.heap.objs.size := fun x c e => by
    obtain ⟨v, o, q, _⟩ := I.cell x c e
    exact Heap.lt_size q
  have nfs : ∀ a, s.heap.objs.size ≤ a → a ∉ frs X.stack := fun a ha z => by
    rcases List.mem_cons.mp (I.stkSub a z) with q | q
    · exact adr_en I.lt ha q
    · exact I.nofs ha q
  have I1 : Inv (cxCompX X scope h2.objs.size M s H fp (EX h2.objs.size)) [] (compSt σ ix) H { s with heap := h1, toks := s.toks + ([] : List (Str × Value)).length } := (inv_comp ok hsc I f2 hCge ⟨_, hns⟩ old flt).wish _
  have st1 : tn 0 h1 := T.keep _ _ _ st fun b _ o e => old b o e
  -- what stays true of the iterator's records
  have fpk : ∀ {H' : Hp} {ps : List (Addr × Obj)}, (∀ b ∈ fp, H' b = none) → (∀ p ∈ ps, p.1 = s.heap.objs.size) → ∀ b ∈ fp, FpOk (cxCompX X scope h2.objs.size M s H fp (EX h2.objs.size)) ps H' b := fun {H' ps} hn hp b hb =>
    ⟨hn b hb, adr_ne (flt b hb) hCge, fun z => by
      rcases List.mem_cons.mp (I.stkSub b z) with q | q
      · exact (f2 b hb).2.1 q
      · exact (f2 b hb).2.2.1 q, .inl hb, fun x c e => (f2 b hb).2.2.2.2.1 x c (cl x c e), fun p hp' => by
      have q := hp p (by simpa [cxCompX, cxComp, Cx.wish] using hp')
      rw [q]
      exact adr_en (flt b hb) (Nat.le_refl _)⟩
  have pinD : ∀ {σ' : St} {H' : Hp} {s' : Shared} {its : List Value} {k : Nat}, Inv (cxCompX X scope h2.objs.size M s H fp (EX h2.objs.size)) [] σ' H' s' → s'.heap.get? s.heap.objs.size = some (lob its k) → H' s.heap.objs.size = none →
      Inv (cxCompX X scope h2.objs.size M s H fp (EX h2.objs.size)) [(s.heap.objs.size, lob its k)] σ' H' s' := fun {σ' H' s' its k} I' e n => I'.pins_of fun p hp => by
    obtain rfl : p = (s.heap.objs.size, lob its k) := by simpa using hp
    exact ⟨e, n, Ne.symm hCD, nfs _ (Nat.le_refl _), fun v z => nomatch z⟩
  have loop : ∀ s5 : Shared, s5 = { s with heap := h1, toks := s.toks + ([] : List (Str × Value)).length } →
      codeAny (model X.prog X.w) X.A (.compLoop (.ListComp elt [⟨tg, iter, ifs, 0⟩] scope pos) 0 (.ref it) (.ref s.heap.objs.size) (compEnvC scope (closOf X.env scope.names []) h2.objs.size X.env)) (RR (.ref s.heap.objs.size) h2.objs.size) s5 := by
    rintro s5 rfl
    refine comp_loopX (EX := EX h2.objs.size) (hout s.heap.objs.size h2.objs.size) (fun n s' => ∃ i acc σ' H' its k, Inv (cxCompX X scope h2.objs.size M s H fp (EX h2.objs.size)) [] σ' H' s' ∧ tn i s'.heap ∧ (∀ b ∈ fp, H' b = none) ∧ W i n acc σ' H' ∧ s'.heap.get? s.heap.objs.size = some (lob its k) ∧ Vals acc its ∧
      H' s.heap.objs.size = none ∧ acc.length ≤ sizeLine) ?_ m0 ⟨0, [], compSt σ ix, H, [], 0, I1, st1, fun b hb => (f2 b hb).1, w0, hD1, .nil, I.fresh, Nat.zero_le _⟩
    rintro n s3 ⟨i, acc, σ3, H3, its, k, I3, st3, fr3, w3, hD3, rv3, nD3, z3⟩
    have I3' := pinD I3 hD3 nD3
    have fk3 := fpk (ps := [(s.heap.objs.size, lob its k)]) fr3 (fun p hp => by rw [List.mem_singleton.mp hp])
    rcases turn i n acc σ3 H3 w3 with ⟨stop, qf⟩ | ⟨go, zl, step⟩
    · refine thn (T.done (cxCompX X scope h2.objs.size M s H fp (EX h2.objs.size)) rfl rfl rfl hcm i _ s3 σ3 H3 (EX h2.objs.size) I3' fk3 st3 stop) fun r s4 ⟨hr, I4⟩ => ?_
      subst hr
      obtain ⟨e4, n4, _⟩ := I4.pin (s.heap.objs.size, lob its k) (by simp [cxCompX, cxComp, Cx.wish])
      have nD : ∀ b u, H3 b = some u → b ≠ s.heap.objs.size := fun b u e z => by rw [z, nD3] at e; cases e
      have u0 : Un (frs X.stack) fp H H3 s.heap s4.heap := I4.base
      have J1 : Inv X pins σ (upd H3 s.heap.objs.size (.lst acc)) s4 := by
        refine I.call' (ch := fp) I4.os ⟨u0.keep, u0.slot, fun b o e nb hx => ?_, u0.there, fun b xs e => ?_, fun b o u e => ?_, fun b ps e => ?_⟩ (fun b u e => ?_) I4.bare fun b hb => ⟨(f2 b hb).2.2.2.1, (f2 b hb).2.1, (f2 b hb).2.2.2.2.1, (f2 b hb).2.2.2.2.2⟩
        · rw [upd_ne (adr_ne (Heap.lt_size e) (Nat.le_refl _))]
          exact u0.free b o e nb hx
        · have q := u0.tups b xs e
          rw [upd_ne (nD b _ q)]; exact q
        · have q := u0.frzs b o u e
          rw [upd_ne (nD b _ q)]; exact q
        · obtain ⟨more, q⟩ := u0.tbls b ps e
          exact ⟨more, by rw [upd_ne (nD b _ q)]; exact q⟩
        · by_cases c : b = s.heap.objs.size
          · subst c
            rw [upd_same] at e
            cases e
            exact ⟨z3, its, k, rv3, e4⟩
          · rw [upd_ne c] at e
            exact (I4.hok b u e).stay (fun _ _ _ q => q) (fun z q => by rw [upd_ne (nD z _ q)]; exact q) fun z xs q => by rw [upd_ne (nD z _ q)]; exact q
      obtain ⟨m4, hm4, _⟩ := I4.loc
      have fC : H3 h2.objs.size = none := I4.free
      refine fin s.heap.objs.size h2.objs.size s4 H3 acc ⟨m4, hm4⟩ J1 (by rw [upd_ne hCD]; exact fC) (adr_en I.lt hCge) (fun x c e => adr_ne (clt x c e) hCge) (fun σ1 H1 s1 h' K1 n1 sb => ?_) (qf _ nD3)
      exact K1.turned (t' := s1.toks) (it := h2.objs.size) (fun b o hb e => sb.extBut b o hb e) n1 (adr_en I.lt hCge) (.inr (Nat.le_trans I.sz hCge)) (fun x c e => adr_ne (clt x c e) hCge) fun p hp => by
        obtain ⟨e, _⟩ := I.pin p hp
        exact adr_ne (Heap.lt_size e) hCge
    · refine thn (T.item (cxCompX X scope h2.objs.size M s H fp (EX h2.objs.size)) rfl rfl rfl hcm i _ s3 σ3 H3 (EX h2.objs.size) I3' fk3 st3 go) fun r s4 ⟨u, hr, h4⟩ => ?_
      subst hr
      refine thn h4 fun _ s5 ⟨x, H5, I5, r5, y5, st5, fr5⟩ => ?_
      have I5' := I5.pinned (fpk (ps := [(s.heap.objs.size, lob its k)]) fr5 (fun p hp => by rw [List.mem_singleton.mp hp])) (T.obj _ _ st5)
      obtain ⟨hg, hc, he⟩ := hb h2.objs.size hCge flt
      refine thn (hg _ s5 σ3 H5 x u _ I5' r5 (step x H5 y5)) fun _ s6 ⟨σ6, H6, I6, q6⟩ => ?_
      refine thn (hc _ s6 σ6 H6 _ I6 q6) fun b s7 ⟨H7, I7, q7⟩ => ?_
      -- the next turn's state
      have next : ∀ {acc' : List V} {its' : List Value} {k' : Nat} {H8 : Hp} {s8 : Shared}, Inv (cxCompX X scope h2.objs.size M s H fp (EX h2.objs.size)) (pinsAt fp s5.heap) σ6 H8 s8 → s8.heap.get? s.heap.objs.size = some (lob its' k') → Vals acc' its' → H8 s.heap.objs.size = none →
          acc'.length ≤ sizeLine → (∃ m', m' < n ∧ W (i + 1) m' acc' σ6 H8) → ∃ m, m < n ∧ ∃ i acc σ' H' its k, Inv (cxCompX X scope h2.objs.size M s H fp (EX h2.objs.size)) [] σ' H' s8 ∧ tn i s8.heap ∧ (∀ b ∈ fp, H' b = none) ∧ W i m acc σ' H' ∧
          s8.heap.get? s.heap.objs.size = some (lob its k) ∧ Vals acc its ∧ H' s.heap.objs.size = none ∧ acc.length ≤ sizeLine := fun {acc' its' k' H8 s8} I8 hD8 rv8 nD8 z8 ⟨m', hm', w8⟩ => by
        refine ⟨m', hm', i + 1, acc', σ6, H8, its', k', I8.pins_of (fun p hp => nomatch hp), T.keep _ _ _ st5 fun b hb o e => (I8.pin (b, o) (List.mem_append_right _ (mem_pinsAt hb e))).1, fun b hb => ?_, w8, hD8, rv8, nD8, z8⟩
        obtain ⟨o, e, _⟩ := T.obj _ _ st5 b hb
        exact (I8.pin (b, o) (List.mem_append_right _ (mem_pinsAt hb e))).2.1
      have drop : ∀ {σ' : St} {H' : Hp} {s' : Shared}, Inv (cxCompX X scope h2.objs.size M s H fp (EX h2.objs.size)) ([(s.heap.objs.size, lob its k)] ++ pinsAt fp s5.heap) σ' H' s' → Inv (cxCompX X scope h2.objs.size M s H fp (EX h2.objs.size)) (pinsAt fp s5.heap) σ' H' s' := fun I' =>
        I'.pins_of fun p hp => I'.pin p (List.mem_append_right _ (List.mem_append_right _ hp))
      cases b with
      | false =>
        obtain ⟨e7, n7, _⟩ := I7.pin (s.heap.objs.size, lob its k) (by simp [cxCompX, cxComp, Cx.wish])
        exact next (drop I7) e7 rv3 n7 z3 q7
      | true =>
        refine thn (he _ s7 σ6 H7 _ I7 q7) fun v s8 ⟨y, H8, I8, r8, q8⟩ => ?_
        obtain ⟨e8, n8, _⟩ := I8.pin (s.heap.objs.size, lob its k) (by simp [cxCompX, cxComp, Cx.wish])
        have I8' := (drop I8).track (D := s.heap.objs.size) (o := .lst acc) n8 (Nat.le_refl _) (Ne.symm hCD) (fun x c e => adr_ne (clt x c (cl x c e)) (Nat.le_refl _)) (fun p hp => by
          have hp : p ∈ pinsAt fp s5.heap := hp
          exact adr_ne (flt p.1 (of_pinsAt hp).1) (Nat.le_refl _)) ⟨z3, its, k, rv3, e8⟩
        refine thn (mt_append (X := cxCompX X scope h2.objs.size M s H fp (EX h2.objs.size)) _ s8 σ6 _ (.ref s.heap.objs.size) [y] (.ref s.heap.objs.size) [v] (fun _ H9 => H9 = upd H8 s.heap.objs.size (.lst (acc ++ [y]))) I8' rfl (.cons r8 .nil) ⟨s.heap.objs.size, acc, y, rfl, rfl, upd_same, zl, upd_upd⟩) fun _ s9 ⟨_, H9, I9, _, e9⟩ => ?_
        subst e9
        obtain ⟨z9, its9, k9, rv9, hD9⟩ := (show ObjOk X.prog X.w (upd H8 s.heap.objs.size (.lst (acc ++ [y]))) s9.heap s.heap.objs.size (.lst (acc ++ [y])) from I9.hok _ _ upd_same)
        exact next (I9.untrack n8) hD9 rv9 n8 z9 q8
  exact codeAny_compStart_list (loop _ rfl) (T.self X.A 0 _ _ _ st1 (loop _ rfl))
end
section
variable {X : Cx} {sc : Scope} {scope : Scope} {elt tg iter : Expr} {ifs : List Expr} {pos : Pos} {wi : TI} {g : TG} {tc : TT} {te : TE} {E E' : XK}
/-- from a callee, within the block -/
theorem block_pass {pins : List (Addr × Obj)} {σ : St} {H2 : Hp} {s2 : Shared} {M : List Str} {C : Addr} {fp : List Addr} (hst : X.stack = X.env :: X.outer) (hex : X.ex = []) (I2 : Inv X pins σ H2 s2) (f2 : ∀ b ∈ fp, FpOk X pins H2 b) (hC : s2.heap.objs.size ≤ C) (hE : ∀ c d H', E' c d H' → E c d H') :
    Passes (CX1 X.prog X.w) (cxCompX X scope C M s2 H2 fp (XC2 X.prog X.w X.env X.outer X.H₀ X.s₀ E C)) E' := by
  rintro pins' σ' H3 s3 e s' I3 ⟨a, cls, B, H', rfl, os, bare, y, fl, q⟩
  have u0 : Un (frs X.stack) fp H2 H3 s2.heap s3.heap := I3.base
  have J3 : Inv X pins σ H3 s3 := I2.call' (ch := fp) I3.os u0 I3.hok I3.bare fun b hb => ⟨(f2 b hb).2.2.2.1, (f2 b hb).2.1, (f2 b hb).2.2.2.2.1, (f2 b hb).2.2.2.2.2⟩
  obtain ⟨m3, hm3, _⟩ := I3.loc
  have hm3 : s3.heap.Ns C m3 := hm3
  obtain ⟨oC, es, ep, g1, g2, g3, g4⟩ := id hm3
  have nC : H3 C = none := I3.free
  have nf : C ∉ frs (X.env :: X.outer) := fun z => by
    rw [← hst] at z
    rcases List.mem_cons.mp (I2.stkSub C z) with r | r
    · exact adr_en I2.lt hC r
    · exact I2.nofs hC r
  have y : Fy X.prog X.w X.stack H3 H' s3.heap s'.heap B a := y
  have fl : Fl B X.stack a cls .none s'.heap := fl
  have fre : ∀ b ∈ frs X.stack, H3 b = none := I3.stkFree
  have bs := J3.base
  rw [hex] at bs
  have os3 : s'.os = X.s₀.os := os.trans J3.os
  rw [hst] at y fl fre
  exact ⟨a, cls, B, H3, s3.heap, H', rfl, os3, bare, bs, fre, y, hE _ _ _ q, ⟨_, fl⟩, ⟨oC, g1⟩, nC, ⟨m3, oC, es, ep, fl.st C oC (y.kept C oC g1 nC nf), g2, g3, g4⟩, nf, Nat.le_trans I2.sz hC⟩
/-- out of the block -/
theorem block_out {use : Option (Value → Sem Unit)} {Q : Value → Shared → Prop} {acc : Value} {C : Addr} {e : Value} {s' : Shared} (hxe : X.xe = XE2 X.prog X.w X.env X.outer X.H₀ X.s₀ E) (fr : X.A.frames = some (X.env :: X.outer)) (hfm : X.env.frame = some X.env.locals) (x : XC2 X.prog X.w X.env X.outer X.H₀ X.s₀ E C e s') :
    notedBy (model X.prog X.w) X.A (compEnvC scope (closOf X.env scope.names []) C X.env) (fun x s'' => compPost (model X.prog X.w) X.A X.xe use Q acc C (.error x) s'') e s' := by
  show wpAny _ _ (noteFrame e (compEnvC scope (closOf X.env scope.names []) C X.env)) _ _ s'
  rw [note_env (env := X.env) (env' := compEnvC scope (closOf X.env scope.names []) C X.env) rfl]
  obtain ⟨a, cls, B, H1, h1, H', rfl, os, bare, bs, fre, y, q, ⟨fl, f⟩, hC, nC, ⟨m, oC, es, ep, g1, g2, g3, g4⟩, nf, hz⟩ := x
  refine note_any fr hfm f fun h2 f2' u => ?_
  obtain ⟨sl, g1'⟩ := u C oC g1 (fun vs z => by rw [g2] at z; cases z)
  have y2 := Fy.on Un.refl y (fun _ z => z) (fun _ _ _ z => z) fre f2' u
  have x2 : XC2 X.prog X.w X.env X.outer X.H₀ X.s₀ E C (.ref a) { s' with heap := h2 } := ⟨a, cls, B, H1, h1, H', rfl, os, bare, bs, fre, y2, q, ⟨_, f2'⟩, hC, nC, ⟨m, _, es, ep, g1', g2, g3, g4⟩, nf, hz⟩
  have go : ∃ m, h2.Ns C m ∧ ∀ h', Heap.SameBut C h2 h' → ∀ cenv : Env, cenv.locals = C → wpAny (model X.prog X.w) X.A (passOn "comprehension.variables-let-go" (.ref a) cenv : Sem Value) (fun _ _ => False) X.xe { s' with heap := h' } := by
    refine ⟨m, ⟨_, es, ep, g1', g2, g3, g4⟩, fun h3 sb cenv hcl => ?_⟩
    obtain ⟨a', cls', B', H1', h1', H'', e', os', bare', bs', fre', y', q', fl', f'⟩ := x2.go sb
    cases e'
    obtain ⟨oe, vs, T', oT, ts, k1, k2, k3, k4, k5, k6, k7, k8, k9, k10, k11⟩ := id f'.ob
    unfold PySem.passOn
    refine wpAny_bind (wpAny_field k1 k4 k5 ?_)
    rw [if_neg (by simp)]
    refine wpAny_bind (flight_to cenv.frame f' fun fl2 h4 f4 u4 => wpAny_throw ?_)
    rw [hxe]
    exact ⟨a, cls', B', H1', h1', H'', rfl, os', bare', bs', fre', Fy.on Un.refl y' (fun _ z => z) (fun _ _ _ z => z) fre' f4 u4, q', .inr ⟨_, f4⟩⟩
  cases use with
  | none => exact go
  | some u => exact go
/-- name = such a comprehension -/
theorem ps_setCM {i : Nat} {y : Str} {py spos : Pos} (hxe : X.xe = XE2 X.prog X.w X.env X.outer X.H₀ X.s₀ E) (hst : X.stack = X.env :: X.outer) (hfm : X.env.frame = some X.env.locals) (hex : X.ex = []) (hN : X.N.Nodup) (hi' : X.N[i]? = some y) (hy : Loc X.env.scope y) (N : List Str) (M : List Str) (ix : List (Option Nat)) (ok : ScOk sc N scope M ix) (hsc : X.env.scope = sc) (hN' : X.N = N) (hcm : X.calm = true) (hi : PI X tg iter wi)
    (hb : ∀ C s H fp, (cxCompX X scope C M s H fp (XC2 X.prog X.w X.env X.outer X.H₀ X.s₀ E C)).N.Nodup → Passes (CX1 X.prog X.w) (cxCompX X scope C M s H fp (XC2 X.prog X.w X.env X.outer X.H₀ X.s₀ E C)) E →
      PG (cxCompX X scope C M s H fp (XC2 X.prog X.w X.env X.outer X.H₀ X.s₀ E C)) tg g ∧ PTs (cxCompX X scope C M s H fp (XC2 X.prog X.w X.env X.outer X.H₀ X.s₀ E C)) ifs tc ∧ PE (cxCompX X scope C M s H fp (XC2 X.prog X.w X.env X.outer X.H₀ X.s₀ E C)) elt te)
    (hsw : swapsWith (.ListComp elt [⟨tg, iter, ifs, 0⟩] scope pos) (some (.Name y py)) spos.line X.env = pure true := by rfl) (hs : ∀ x, foldedSetIterable iter X.env x = pure x := by intro _; rfl)
    (hf : X.fn y = true ∨ X.env.scope.names.lookup y = some .local := by first | exact .inl rfl | exact .inr rfl | assumption) :
    PS X (.Assign [.Name y py] (.ListComp elt [⟨tg, iter, ifs, 0⟩] scope pos) spos) (fun D σ H => tComp ix wi g tc te σ H fun v H1 => D.nx (σ.set i (some v)) H1) := by
  subst hN'
  intro pins s σ H D I h
  rw [exec_Assign_Name_used _ _ _ _ hsw]
  refine wpAny_bind (wpAny_standAt (wpAny_bind ?_))
  show wpAny _ X.A (do let _ ← comprehension (.ListComp elt [⟨tg, iter, ifs, 0⟩] scope pos) scope X.env _ (newList []) false (eval iter X.env) (some (assign (.Name y py) X.env))) _ _ s
  refine wpAny_bind (wpAny_mono (wpAny_comprehension_free (use := some (assign (.Name y py) X.env)) (Q := fun _ s' => SP X pins D .next s') rfl hs (clos_eq (cells_of ok hsc I)) ok.kind ok.loc
    (thn (hi pins s σ H _ I h) fun v s1 h1 => thn h1 fun itv s2 h2 => ?_)) (fun _ s' hq => wpAny_pure (wpAny_pure hq)) fun _ _ e => e)
  obtain ⟨it, fp, tn, J, H2, e, I2, T, st2, f2, w2⟩ := h2
  subst e
  have fr : X.A.frames = some (X.env :: X.outer) := I2.ok.frames.trans (congrArg some hst)
  refine comp_blockX (RR := fun acc C => compPost (model X.prog X.w) X.A X.xe (some (assign (.Name y py) X.env)) (fun _ s' => SP X pins D .next s') acc C) ok hsc hcm I2 T st2 f2 (XC2 X.prog X.w X.env X.outer X.H₀ X.s₀ E) (fun C hC hfp => hb C s2 H2 fp ok.nd (block_pass hst hex I2 f2 hC fun _ _ _ q => q)) (fun D C e s' x => block_out hxe fr hfm x) w2 fun Da C s' H' acc ⟨m, hm⟩ J1 nC neL neC lg q => ?_
  show wpAny _ X.A (assign (.Name y py) X.env (.ref Da)) _ _ _
  refine wpAny_assign_Name (store_ok2 J1 hN hi' hy (v := .ref Da) rfl (fun s'' I'' ⟨a, sb, ha⟩ => ?_) hf)
  have hCa : C ≠ a := by
    rcases ha with z | z
    · rw [z]; exact neL
    · exact Ne.symm (neC y a z)
  exact ⟨m, hm.sameBut sb hCa, fun h' sb' => ⟨σ.set i (some (.ref Da)), _, lg _ _ _ _ I'' nC sb', q⟩⟩
end
end L2
namespace Pr
def top (i : Nat) : PySem.Stmt := PySem.Challenge.pw_parkrow_k11_texts.main.body.getD i (.Pass ⟨0, 0, 0, 0⟩)
abbrev sIsNum : PySem.Stmt := top 10
abbrev sEachB : PySem.Stmt := top 11
abbrev sIsStreet : PySem.Stmt := top 12
abbrev sChkStreet : PySem.Stmt := top 13
abbrev sWritten : PySem.Stmt := top 17
abbrev sNumber : PySem.Stmt := top 18
abbrev sRead : PySem.Stmt := top 19
abbrev sNumL : PySem.Stmt := top 21
abbrev sInL : PySem.Stmt := top 22
abbrev sAskedL : PySem.Stmt := top 23
abbrev sRightL : PySem.Stmt := top 24
abbrev sLaw : PySem.Stmt := top 25
end Pr
namespace Pr
open PySem L2
/-! ### what is asked of the names around -/
structure Bt (K : PySem.W.Frag) (mg : Str → Option Value) : Prop where
  isi : mg "isinstance" = none
  int : mg "int" = none
  bool : mg "bool" = none
  list : mg "list" = none
  enum : mg "enumerate" = none
  sorted : mg "sorted" = none
  range : mg "range" = none
  all : mg "all" = none
  any : mg "any" = none
  sum : mg "sum" = none
  max : mg "max" = none
  len : mg "len" = none
  ib : PySem.W.kitOne K (.type "int") (.type "bool") = some false
theorem b_isi : bootBuiltins "isinstance" = some (.builtin "isinstance") := by decide +kernel
theorem b_int : bootBuiltins "int" = some (.type "int") := by decide +kernel
theorem b_bool : bootBuiltins "bool" = some (.type "bool") := by decide +kernel
theorem b_list : bootBuiltins "list" = some (.type "list") := by decide +kernel
theorem b_all : bootBuiltins "all" = some (.builtin "all") := by decide +kernel
theorem b_any : bootBuiltins "any" = some (.builtin "any") := by decide +kernel
theorem b_sum : bootBuiltins "sum" = some (.builtin "sum") := by decide +kernel
theorem b_len : bootBuiltins "len" = some (.builtin "len") := by decide +kernel
theorem kit_same (K : PySem.W.Frag) (n : String) : PySem.W.kitOne K (.type n) (.type n) = some true := by
  unfold PySem.W.kitOne
  rw [if_pos (by simp)]
theorem iteFd {c A B : Prop} [Decidable c] (h : ¬ c) (b : B) : if decide c = true then A else B := by
  rw [decide_eq_false h]
  exact iteF b
theorem iteTd {c A B : Prop} [Decidable c] (h : c) (a : A) : if decide c = true then A else B := by
  rw [decide_eq_true h]
  exact iteT a
theorem ite2d {c A B : Prop} [Decidable c] (a : c → A) (b : ¬ c → B) : if decide c = true then A else B := by
  by_cases h : c
  · exact iteTd h (a h)
  · exact iteFd h (b h)
section
variable {P : Program} {w : World} {K : PySem.W.Frag} {mg : Str → Option Value} {base : Heap}
/-! ### values of any kind -/
def numV : V → Bool
  | .int _ => true
  | _ => false
/-- what is handed in: a value of a known kind -/
inductive Any (K : PySem.W.Frag) (H : Hp) : V → Prop where
  | non : Any K H .non
  | bl (b : Bool) : Any K H (.bl b)
  | int (i : Int) : Any K H (.int i)
  | str (x : Str) : Any K H (.str x)
  | lst {a : Addr} {xs : List V} (e : H a = some (.lst xs)) : Any K H (.ref a)
  | tup {a : Addr} {xs : List V} (e : H a = some (.tup xs)) : Any K H (.ref a)
theorem kit_b {K : PySem.W.Frag} {n m : String} {b : Bool} (h1 : PySem.W.kitMeta m = true) (h2 : (PySem.fastBuiltinMro n).map (·.contains (.type m)) = some b) (h3 : (Value.type n == Value.type m) = false) : PySem.W.kitOne K (.type n) (.type m) = some b := by
  unfold PySem.W.kitOne
  rw [if_neg (by rw [h3]; exact Bool.false_ne_true)]
  show (if PySem.W.kitMeta m = true then PySem.W.subIn K (.type n) (.type m) else none) = some b
  rw [if_pos h1]
  exact h2
theorem Any.num {K : PySem.W.Frag} {H : Hp} {v : V} (h : Any K H v) : ∃ t b, TyOf K H v t ∧ PySem.W.kitOne K t (.type "int") = some b ∧ (b = false → numV v = false) ∧ (b = true → ∃ c, PySem.W.kitOne K t (.type "bool") = some c ∧ numV v = !c) := by
  cases h with
  | non => exact ⟨_, false, .non, kit_b (by decide +kernel) (by decide +kernel) (by rfl), fun _ => rfl, fun z => by cases z⟩
  | bl b => exact ⟨_, true, .bl b, kit_b (by decide +kernel) (by decide +kernel) (by rfl), (fun z => by cases z), fun _ => ⟨true, kit_same _ _, rfl⟩⟩
  | int i => exact ⟨_, true, .int i, kit_same _ _, (fun z => by cases z), fun _ => ⟨false, kit_b (by decide +kernel) (by decide +kernel) (by rfl), rfl⟩⟩
  | str x => exact ⟨_, false, .str x, kit_b (by decide +kernel) (by decide +kernel) (by rfl), fun _ => rfl, fun z => by cases z⟩
  | lst e => exact ⟨_, false, .lst e, kit_b (by decide +kernel) (by decide +kernel) (by rfl), fun _ => rfl, fun z => by cases z⟩
  | tup e => exact ⟨_, false, .tup e, kit_b (by decide +kernel) (by decide +kernel) (by rfl), fun _ => rfl, fun z => by cases z⟩
theorem anyI (K : PySem.W.Frag) (H : Hp) (ns : List Int) : ∀ x ∈ ns.map V.int, Any K H x := fun x hx => by
  obtain ⟨n, _, rfl⟩ := List.mem_map.mp hx
  exact .int n
/-! ### is_number, is_each_below, is_list_below_its_length, is_street -/
def spIsNumG (K : PySem.W.Frag) : Sp := fun vs H Q _ => ∃ v, vs = [v] ∧ Any K H v ∧ Q (.bl (numV v)) H
theorem scIsNum : FnScope ["thing"] ["thing"] (defScope sIsNum) := ⟨rfl, rfl, rfl, by decide +kernel, rfl, by decide +kernel, by decide +kernel⟩
theorem d_isnumG (S : Src K mg "is_number" sIsNum ["thing"]) (B : Bt K mg) : Def P w K mg base 1 "is_number" ["thing"] (spIsNumG K) := by
  refine S.ok scIsNum (fun vs H Q E h => ?_) (fun f cdv A outer s H vs Q E hr h => ?_)
  · obtain ⟨v, rfl, _⟩ := h
    rfl
  · obtain ⟨v, rfl, hv, k⟩ := h
    obtain ⟨t, b, ty, e1, e2, e3⟩ := hv.num
    refine ⟨_, pss_one (ps_ret (pe_and (pe_callB call_isi (by rfl) B.isi b_isi (pa_cons (pv 0) (pa_cons (pe_bltn (v := .ty "int") (by rfl) B.int b_int rfl) pa_nil)))
      (pe_one (pe_not (pe_callB call_isi (by rfl) B.isi b_isi (pa_cons (pv 0) (pa_cons (pe_bltn (v := .ty "bool") (by rfl) B.bool b_bool rfl) pa_nil))))))), ?_⟩
    refine ⟨_, rfl, _, _, _, _, _, rfl, ty, .inl ⟨_, rfl, rfl⟩, e1, _, rfl, ?_⟩
    cases b with
    | false =>
      refine iteF ?_
      rw [e2 rfl] at k
      exact k
    | true =>
      obtain ⟨c, e4, e5⟩ := e3 rfl
      rw [e5] at k
      exact iteT ⟨_, rfl, _, _, _, _, _, rfl, ty, .inl ⟨_, rfl, rfl⟩, e4, _, rfl, k⟩
/-- no place of p -/
def badV (p : Nat) : V → Bool
  | .int i => decide (i < 0) || decide ((p : Int) ≤ i)
  | _ => true
def spEachB (K : PySem.W.Frag) : Sp := fun vs H Q _ => ∃ (p : Nat) (a : Addr) (xs : List V), vs = [.int (p : Int), .ref a] ∧ H a = some (.lst xs) ∧ (∀ x ∈ xs, Any K H x) ∧ Q (.bl (xs.all fun x => !badV p x)) H
theorem scEachB : FnScope ["bound", "things", "thing"] ["bound", "things"] (defScope sEachB) := ⟨rfl, rfl, rfl, by decide +kernel, rfl, by decide +kernel, by decide +kernel⟩
theorem d_eachb (S : Src K mg "is_each_below" sEachB ["bound", "things"]) (D1 : Def P w K mg base 1 "is_number" ["thing"] (spIsNumG K)) : Def P w K mg base 2 "is_each_below" ["bound", "things"] (spEachB K) := by
  refine S.ok scEachB (fun vs H Q E h => ?_) (fun f cdv A outer s H vs Q E hr h => ?_)
  · obtain ⟨p, a, xs, rfl, _⟩ := h
    rfl
  · obtain ⟨p, a, xs, rfl, ha, hx, k⟩ := h
    refine ⟨_, pss_cons (ps_for PassesOwn.never rfl (pi_list (pv 1)) (pg_name (i := 2) scEachB.nd rfl (Or.inl rfl))
      (pss_one (ps_if (pw_or (pt_not (pt_val (pe_callD D1 hr (by rfl) (pa_cons (pv 2) pa_nil)))) (pw_or (pt_cmp (pc_lt (pv 2) pe_int)) (pw_or1 (pt_cmp (pc_ge (pv 2) (pv 0)))))).pt (pss_one (ps_ret pe_bl)) pss_nil)))
      (pss_one (ps_ret pe_bl)), ?_⟩
    refine ⟨_, rfl, a, rfl, ⟨_, SqL.of ha⟩, for_list (K := K) (a := a) (xs := xs) (fun i σ H' => ∃ v, σ = [some (.int (p : Int)), some (.ref a), v] ∧ H' = H ∧ ∀ x ∈ xs.take i, badV p x = false) ⟨none, rfl, rfl, by simp⟩ (fun i σ H' _ ⟨_, _, e, _⟩ => e ▸ SqL.of ha) ?_ ?_⟩
    · rintro i x σ H' hi ⟨v, rfl, rfl, ok⟩
      have hm := List.mem_of_getElem? hi
      have anyx := hx x hm
      refine ⟨_, rfl, x, rfl, anyx, _, rfl, ?_⟩
      have more : badV p x = false → ∀ y ∈ xs.take (i + 1), badV p y = false := fun e y hy => by
        rw [List.take_add_one, hi] at hy
        rcases List.mem_append.mp hy with z | z
        · exact ok y z
        · have : y = x := by simpa using z
          exact this ▸ e
      have no : badV p x = true → Q (.bl false) H' := fun e => by
        have : (xs.all fun x => !badV p x) = false := List.all_eq_false.mpr ⟨x, hm, by rw [e]; simp⟩
        rw [this] at k
        exact k
      cases x with
      | int i' =>
        refine iteF ?_
        refine ⟨_, rfl, _, _, rfl, rfl, _, rfl, ite2d (fun c => ?_) (fun c => ?_)⟩
        · exact no (by show (decide (i' < 0) || _) = true; rw [decide_eq_true c]; rfl)
        · refine ⟨_, rfl, _, rfl, _, _, rfl, rfl, _, rfl, ite2d (fun d => ?_) (fun d => ?_)⟩
          · exact no (by show (_ || decide ((p : Int) ≤ i')) = true; rw [decide_eq_true d]; exact Bool.or_true _)
          · exact ⟨_, rfl, rfl, more (by show (decide (i' < 0) || decide ((p : Int) ≤ i')) = false; rw [decide_eq_false c, decide_eq_false d]; rfl)⟩
      | non => exact iteT (no rfl)
      | bl b => exact iteT (no rfl)
      | str y => exact iteT (no rfl)
      | byt y => exact iteT (no rfl)
      | flt y => exact iteT (no rfl)
      | ref y => exact iteT (no rfl)
      | ty y => exact iteT (no rfl)
    · rintro σ H' ⟨v, rfl, rfl, ok⟩
      rw [List.take_length] at ok
      have : (xs.all fun x => !badV p x) = true := List.all_eq_true.mpr fun x hx => by rw [ok x hx]; rfl
      rw [this] at k
      exact k
theorem goodI {p : Nat} {ws : List Nat} (h : ∀ w ∈ ws, w < p) : ((vI ws).all fun x => !badV p x) = true := List.all_eq_true.mpr fun x hx => by
  rw [vI_eq] at hx
  obtain ⟨w, hw, rfl⟩ := List.mem_map.mp hx
  have := h w hw
  show (!(decide (((w : Nat) : Int) < 0) || decide ((p : Int) ≤ ((w : Nat) : Int)))) = true
  rw [decide_eq_false (by omega), decide_eq_false (by omega)]
  rfl
/-! ### check_street -/
def stV : V → Bool
  | .int i => decide (1 ≤ i) && decide (i ≤ 1000000)
  | _ => false
def spIsStreet (K : PySem.W.Frag) : Sp := fun vs H Q _ => ∃ v, vs = [v] ∧ Any K H v ∧ Q (.bl (stV v)) H
theorem scIsStreet : FnScope ["places"] ["places"] (defScope sIsStreet) := ⟨rfl, rfl, rfl, by decide +kernel, rfl, by decide +kernel, by decide +kernel⟩
theorem d_isstreet (S : Src K mg "is_street" sIsStreet ["places"]) (hm : ∃ t, mg "MOST_PLACES" = some (.int 1000000 t)) (D1 : Def P w K mg base 1 "is_number" ["thing"] (spIsNumG K)) : Def P w K mg base 2 "is_street" ["places"] (spIsStreet K) := by
  obtain ⟨tm, hm⟩ := hm
  refine S.ok scIsStreet (fun vs H Q E h => ?_) (fun f cdv A outer s H vs Q E hr h => ?_)
  · obtain ⟨v, rfl, _⟩ := h
    rfl
  · obtain ⟨v, rfl, hv, k⟩ := h
    refine ⟨_, pss_one (ps_ret (pe_and (pe_callD D1 hr (by rfl) (pa_cons (pv 0) pa_nil)) (pe_and (pe_cmpR op_ge (pv 0) pe_int (nomark _)) (pe_one (pe_cmpR op_le (pv 0) (pe_glob (v := .int 1000000) (by rfl) hm ⟨tm, rfl⟩) (nomark _)))))), ?_⟩
    refine ⟨_, rfl, v, rfl, hv, _, rfl, ?_⟩
    cases v with
    | int i =>
      refine iteT ⟨_, rfl, _, _, rfl, rfl, _, rfl, ite2d (fun c => ?_) (fun c => ?_)⟩
      · refine ⟨_, rfl, _, _, rfl, rfl, ?_⟩
        have e : stV (.int i) = decide (i ≤ 1000000) := by show (decide (1 ≤ i) && _) = _; rw [decide_eq_true c]; rfl
        rw [e] at k
        exact k
      · have e : stV (.int i) = false := by show (decide (1 ≤ i) && _) = _; rw [decide_eq_false c]; rfl
        rw [e] at k
        exact k
    | non => exact iteF k
    | bl b => exact iteF k
    | str y => exact iteF k
    | byt y => exact iteF k
    | flt y => exact iteF k
    | ref y => exact iteF k
    | ty y => exact iteF k
def spChkStreet : Sp := fun vs H Q _ => ∃ (p : Nat) (a : Addr) (ws : List Nat), vs = [.int (p : Int), .ref a] ∧ H a = some (.lst (vI ws)) ∧ (∀ w ∈ ws, w < p) ∧ 1 ≤ p ∧ p ≤ 1000000 ∧ Q .non H
theorem scChkStreet : FnScope ["places", "wishes"] ["places", "wishes"] (defScope sChkStreet) := ⟨rfl, rfl, rfl, by decide +kernel, rfl, by decide +kernel, by decide +kernel⟩
theorem d_chkstreet (S : Src K mg "check_street" sChkStreet ["places", "wishes"]) (B : Bt K mg) (D1 : Def P w K mg base 2 "is_street" ["places"] (spIsStreet K)) (D2 : Def P w K mg base 2 "is_each_below" ["bound", "things"] (spEachB K)) : Def P w K mg base 3 "check_street" ["places", "wishes"] spChkStreet := by
  refine S.ok scChkStreet (fun vs H Q E h => ?_) (fun f cdv A outer s H vs Q E hr h => ?_)
  · obtain ⟨p, a, ws, rfl, _⟩ := h
    rfl
  · obtain ⟨p, a, ws, rfl, ha, hw, h1, h2, k⟩ := h
    refine ⟨_, pss_cons (ps_if (pt_not (pt_val (pe_callD D1 hr (by rfl) (pa_cons (pv 0) pa_nil)))) pss_never pss_nil)
      (pss_one (ps_if (pw_or (pt_not (pt_val (pe_callB call_isi (by rfl) B.isi b_isi (pa_cons (pv 1) (pa_cons (pe_bltn (v := .ty "list") (by rfl) B.list b_list rfl) pa_nil))))) (pw_or1 (pt_not (pt_val (pe_callD D2 hr (by rfl) (pa_cons (pv 0) (pa_cons (pv 1) pa_nil))))))).pt pss_never pss_nil)), ?_⟩
    have e : stV (.int (p : Int)) = true := by show (decide (1 ≤ (p : Int)) && decide ((p : Int) ≤ 1000000)) = true; rw [decide_eq_true (by omega), decide_eq_true (by omega)]; rfl
    refine ⟨_, rfl, _, rfl, .int _, _, rfl, ?_⟩
    rw [e]
    refine iteF ?_
    refine ⟨_, rfl, _, _, _, _, _, rfl, .lst ha, .inl ⟨_, rfl, rfl⟩, kit_same _ _, _, rfl, iteF ?_⟩
    refine ⟨_, rfl, _, rfl, p, a, _, rfl, ha, anyI K H (toI ws), _, rfl, ?_⟩
    rw [goodI hw]
    exact iteF k
/-! ### _law_numbers -/
theorem small63' {n : Nat} (h : n ≤ 900) : n ≤ sizeLine := Nat.le_of_lt (small1000 (by omega))
theorem small63 {n : Nat} (h : n ≤ 63) : n ≤ sizeLine := Nat.le_of_lt (small1000 (by omega))
theorem take_succ_at {ws : List Nat} {i w : Nat} (h : ws[i]? = some w) : ws.take (i + 1) = ws.take i ++ [w] := by
  rw [List.take_add_one, h]
  rfl
/-! ### numbers of the script -/
theorem emod_nat {c : Int} {p : Nat} (h : 0 < p) : c % (p : Int) = (((c % (p : Int)).toNat : Nat) : Int) ∧ (c % (p : Int)).toNat < p := by
  have h1 := Int.emod_nonneg c (show (p : Int) ≠ 0 by omega)
  have h2 := Int.emod_lt_of_pos c (show (0 : Int) < p by omega)
  omega
/-! ### the refusals' classes -/
/-- the classes by their names, and what isinstance says of an exception of the one at CM -/
structure Xs (K : PySem.W.Frag) (mg : Str → Option Value) (CS CW CM CT CP CD CX : Addr) : Prop where
  ms : mg "StreetError" = some (.ref CS)
  mw : mg "BadWishes" = some (.ref CW)
  mm : mg "TooMany" = some (.ref CM)
  mt : mg "BadTree" = some (.ref CT)
  mp : mg "BadPath" = some (.ref CP)
  md : mg "BadStanding" = some (.ref CD)
  mx : mg "BadText" = some (.ref CX)
  ve : mg "ValueError" = none
structure Xk (K : PySem.W.Frag) (C CS CW CM CT CP CD CX : Addr) (bw bm bt bp bd bx : Bool) : Prop where
  xc : XC K C
  es : PySem.W.exmOne K (.ref C) (.ref CS) = some true
  kv : PySem.W.kitOne K (.ref C) (.type "ValueError") = some true
  kw : PySem.W.kitOne K (.ref C) (.ref CW) = some bw
  km : PySem.W.kitOne K (.ref C) (.ref CM) = some bm
  kt : PySem.W.kitOne K (.ref C) (.ref CT) = some bt
  kp : PySem.W.kitOne K (.ref C) (.ref CP) = some bp
  kd : PySem.W.kitOne K (.ref C) (.ref CD) = some bd
  kx : PySem.W.kitOne K (.ref C) (.ref CX) = some bx
/-! ### texts of signs -/
def tx (t : List Nat) : Str := ⟨t.toArray⟩
theorem tx_len (t : List Nat) : (tx t).length = t.length := by
  show t.toArray.size = t.length
  rw [List.size_toArray]
theorem tx_at {t : List Nat} {i c : Nat} (h : (tx t).cps[i]? = some c) : t[i]? = some c := by
  have h : t.toArray[i]? = some c := h
  rw [List.getElem?_toArray] at h
  exact h
theorem tx_size (t : List Nat) : (tx t).cps.size = t.length := tx_len t
theorem tx_of (z : Str) : tx z.cps.toList = z := by
  show (⟨z.cps.toList.toArray⟩ : Str) = z
  rw [Array.toArray_toList]
theorem tx_inj {a b : List Nat} (h : tx a = tx b) : a = b := by
  have : a.toArray = b.toArray := congrArg Str.cps h
  have := congrArg Array.toList this
  simpa using this
theorem tx_add (a b : List Nat) : tx a ++ tx b = tx (a ++ b) := by
  show (⟨a.toArray ++ b.toArray⟩ : Str) = ⟨(a ++ b).toArray⟩
  simp
theorem s_e : ("" : Str) = tx [] := by decide +kernel
theorem one_eq {c d : Nat} : (V.str ⟨#[c]⟩ = V.str (tx [d])) ↔ c = d := by
  constructor
  · intro h
    have h : (⟨#[c]⟩ : Str) = ⟨#[d]⟩ := V.str.inj h
    have h : (#[c] : Array Nat) = #[d] := congrArg Str.cps h
    have := congrArg (fun a : Array Nat => a[0]?) h
    simpa using this
  · rintro rfl
    rfl
structure Bt2 (mg : Str → Option Value) : Prop where
  zip : mg "zip" = none
  str : mg "str" = none
theorem b_str : bootBuiltins "str" = some (.type "str") := by decide +kernel
theorem Any.isS {K : PySem.W.Frag} {H : Hp} {v : V} (h : Any K H v) : ∃ t b, TyOf K H v t ∧ PySem.W.kitOne K t (.type "str") = some b ∧ (b = true → ∃ z, v = .str z) ∧ (b = false → ∀ z, v ≠ .str z) := by
  cases h with
  | non => exact ⟨_, false, .non, kit_b (by decide +kernel) (by decide +kernel) (by rfl), (fun z => by cases z), fun _ _ z => by cases z⟩
  | bl b => exact ⟨_, false, .bl b, kit_b (by decide +kernel) (by decide +kernel) (by rfl), (fun z => by cases z), fun _ _ z => by cases z⟩
  | int i => exact ⟨_, false, .int i, kit_b (by decide +kernel) (by decide +kernel) (by rfl), (fun z => by cases z), fun _ _ z => by cases z⟩
  | str x => exact ⟨_, true, .str x, kit_same _ _, (fun _ => ⟨x, rfl⟩), fun z => by cases z⟩
  | lst e => exact ⟨_, false, .lst e, kit_b (by decide +kernel) (by decide +kernel) (by rfl), (fun z => by cases z), fun _ _ z => by cases z⟩
  | tup e => exact ⟨_, false, .tup e, kit_b (by decide +kernel) (by decide +kernel) (by rfl), (fun z => by cases z), fun _ _ z => by cases z⟩
/-! ### slices -/
theorem slice_tx {t : List Nat} {l u : Option Int} {a b : Nat} (hab : a ≤ b) (hb : b ≤ t.length) (e : Builtin.Str.strSliceIndices l u 1 (tx t).length = Builtin.Str.strSliceIndices (some (a : Int)) (some (b : Int)) 1 (tx t).length) : Txt.slice (tx t) l u = tx ((t.drop a).take (b - a)) := by
  have hb' : b ≤ (tx t).length := by rw [tx_len]; exact hb
  unfold Txt.slice
  rw [e]
  have p := PySem.StrLaws.sliced_plain (tx t) hab hb'
  rw [p, PySem.StrLaws.strSliceIndices_plain hab hb', List.length_map, List.length_range]
  have el : (tx t).cps.toList = t := by show t.toArray.toList = t; simp
  rw [el]
  by_cases c : b - a = (tx t).length
  · rw [if_pos (by rw [c]; simp)]
    rw [tx_len] at c
    have a0 : a = 0 := by omega
    have b0 : b = t.length := by omega
    rw [a0, b0, List.drop_zero, Nat.sub_zero, List.take_length]
  · rw [if_neg (by simp [c])]
    rfl
/-! ### lists of numbers -/
theorem vI_inj {a b : List Nat} (h : vI a = vI b) : a = b := by
  rw [vI_eq, vI_eq] at h
  exact (List.map_inj_right (fun x y e => by have := V.int.inj e; omega)).mp h
theorem goodV {n : Nat} : ∀ {xs : List V}, (xs.all fun x => !badV n x) = true → ∃ ps : List Nat, xs = vI ps ∧ ∀ p ∈ ps, p < n
  | [], _ => ⟨[], rfl, fun p hp => by simp at hp⟩
  | x :: r, h => by
    rw [List.all_cons, Bool.and_eq_true] at h
    obtain ⟨ps, e, hp⟩ := goodV h.2
    have hx : badV n x = false := by simpa using h.1
    cases x with
    | int i =>
      have hx : (decide (i < 0) || decide ((n : Int) ≤ i)) = false := hx
      rw [Bool.or_eq_false_iff] at hx
      have h1 := of_decide_eq_false hx.1
      have h2 := of_decide_eq_false hx.2
      refine ⟨i.toNat :: ps, ?_, fun p hm => ?_⟩
      · rw [e, vI_eq, vI_eq, List.map_cons, Int.toNat_of_nonneg (by omega)]
      · rcases List.mem_cons.mp hm with z | z
        · omega
        · exact hp p z
    | non => cases hx
    | bl b => cases hx
    | str s => cases hx
    | byt b => cases hx
    | flt b => cases hx
    | ref a => cases hx
    | ty t => cases hx
/-! ### numbers as texts -/
/-- a word that writes a number -/
def isN (t : List Nat) : Bool := decide (1 ≤ t.length) && decide (t.length ≤ 7) && (t.all fun c => decide (48 ≤ c) && decide (c ≤ 57)) && (decide (t.head? ≠ some 48) || decide (t.length = 1))
def valN (t : List Nat) : Nat := PySem.NumText.digitsVal t
theorem isN_len {t : List Nat} (h : isN t = true) : 1 ≤ t.length ∧ t.length ≤ 7 := by
  unfold isN at h
  simp only [Bool.and_eq_true, decide_eq_true_eq] at h
  exact ⟨h.1.1.1, h.1.1.2⟩
theorem isN_dig {t : List Nat} (h : isN t = true) : PySem.NumText.AllDigits t := fun c hc => by
  unfold isN at h
  simp only [Bool.and_eq_true, decide_eq_true_eq, List.all_eq_true] at h
  exact h.1.2 c hc
theorem isN_zero {t : List Nat} (h : isN t = true) : t.head? ≠ some 48 ∨ t.length = 1 := by
  unfold isN at h
  simp only [Bool.and_eq_true, Bool.or_eq_true, decide_eq_true_eq] at h
  exact h.2
theorem tx_list (t : List Nat) : (tx t).cps.toList = t := by
  show t.toArray.toList = t
  simp
theorem isN_int {t : List Nat} (h : isN t = true) : PySem.intText? (tx t) = some ((valN t : Nat) : Int) := by
  have l := isN_len h
  have := PySem.intText_digits (x := tx t) (by rw [tx_list]; exact isN_dig h) (by rw [tx_list]; intro z; rw [z] at l; exact absurd l.1 (by decide)) (by rw [tx_len]; omega)
  rw [tx_list] at this
  exact this
theorem isN_back {t : List Nat} (h : isN t = true) : numT ((valN t : Nat) : Int) = tx t := by
  have l := isN_len h
  have d := isN_dig h
  have e : (numT ((valN t : Nat) : Int)).cps.toList = t := by
    show (PySem.Str.ofString (toString ((valN t : Nat) : Int))).cps.toList = t
    rw [PySem.W.KIN.signs_num]
    show ((Nat.toDigits 10 (PySem.NumText.digitsVal t)).map Char.toNat) = t
    rw [PySem.NumText.toDigits_digitsVal (t.length - 1) t (by omega) d ?_, List.map_map]
    · have : ∀ c ∈ t, (Char.toNat ∘ Char.ofNat) c = c := fun c hc => by
        have b := d c hc
        show (Char.ofNat c).toNat = c
        have : ∀ c : Nat, c < 58 → (Char.ofNat c).toNat = c := by decide
        exact this c (by omega)
      rw [List.map_congr_left this, List.map_id']
    · cases t with
      | nil => exact absurd l.1 (by decide)
      | cons c r =>
        rcases isN_zero h with z | z
        · refine .inr ⟨c, r, rfl, ?_⟩
          have b := d c List.mem_cons_self
          have : c ≠ 48 := fun e => z (by rw [e]; rfl)
          omega
        · exact .inl (by rw [z])
  rw [← tx_of (numT _), e]
theorem num_log {n : Nat} (h : n ≤ 10000000) : ((n : Nat) : Int).natAbs.log2 < 1920 := by
  show n.log2 < 1920
  by_cases z : n = 0
  · rw [z]; decide
  · exact (Nat.log2_lt z).mpr (Nat.lt_of_le_of_lt h (Nat.lt_of_lt_of_le (show 10000000 < 2 ^ 24 by decide) (Nat.pow_le_pow_right (by decide) (by decide))))
theorem numT_len {n : Nat} (h : n ≤ 10000000) : (numT ((n : Nat) : Int)).length ≤ 10 := PySem.W.KT.len_num (by omega) (by
  have : ((n : Nat) : Int) ≤ 10000000 := by omega
  have e : (10 : Int) ^ 10 = 10000000000 := by decide
  rw [e]
  omega)
theorem valN_le {t : List Nat} (h : isN t = true) : valN t ≤ 9999999 := by
  have key : ∀ (k : Nat) (cs : List Nat), cs.length = k → PySem.NumText.AllDigits cs → PySem.NumText.digitsVal cs < 10 ^ k := by
    intro k
    induction k with
    | zero => intro cs e _; rw [List.length_eq_zero_iff.mp e]; decide
    | succ k ih =>
      intro cs e d
      obtain ⟨r, c, rfl⟩ : ∃ r c, cs = r ++ [c] := ⟨cs.dropLast, cs.getLast (by intro z; rw [z] at e; cases e), (List.dropLast_concat_getLast _).symm⟩
      rw [List.length_append, List.length_singleton] at e
      have i := ih r (by omega) fun x hx => d x (List.mem_append_left _ hx)
      have b := d c (List.mem_append_right _ List.mem_cons_self)
      rw [PySem.NumText.digitsVal_snoc, Nat.pow_succ]
      omega
  have k := key t.length t rfl (isN_dig h)
  have l := isN_len h
  have : 10 ^ t.length ≤ 10 ^ 7 := Nat.pow_le_pow_right (by decide) l.2
  have e : (10 : Nat) ^ 7 = 10000000 := by decide
  rw [e] at this
  show PySem.NumText.digitsVal t ≤ 9999999
  omega
/-! ### the words of a text -/
def sp1 : Str := tx [32]
theorem s_sp : (" " : Str) = sp1 := by decide +kernel
theorem s_col : (":" : Str) = tx [58] := by decide +kernel
def wds (z : Str) : List (List Nat) := (Txt.split z sp1).map fun y => y.cps.toList
theorem wds_str (z : Str) : (Txt.split z sp1).map V.str = (wds z).map fun t => V.str (tx t) := by
  unfold wds
  rw [List.map_map]
  exact List.map_congr_left fun y _ => by show V.str y = V.str (tx y.cps.toList); rw [tx_of]
theorem wds_ne (z : Str) : wds z ≠ [] := by
  intro e
  have : Txt.split z sp1 = [] := List.map_eq_nil_iff.mp e
  unfold Txt.split at this
  split at this
  · cases this
  · split at this
    · cases this
    · have l := congrArg List.length this
      rw [PySem.length_partsBetween] at l
      cases l
theorem wds_len (z : Str) : (wds z).length ≤ z.length + 1 := by
  unfold wds
  rw [List.length_map]
  have := PyProof.Rows.split_weight z sp1 (by decide)
  omega
theorem wds_short {z : Str} {t : List Nat} (h : t ∈ wds z) : t.length ≤ z.length := by
  unfold wds at h
  obtain ⟨y, hy, rfl⟩ := List.mem_map.mp h
  have := PyProof.Rows.part_short hy
  show y.cps.toList.length ≤ _
  rw [Array.length_toList]
  exact this
theorem wds_join (z : Str) : Txt.join sp1 ((wds z).map tx) = z := by
  have e : (wds z).map tx = Txt.split z sp1 := by
    unfold wds
    rw [List.map_map]
    exact (List.map_congr_left fun y _ => tx_of y).trans (List.map_id' _)
  rw [e]
  show Builtin.Str.glued sp1 _ = z
  rw [StrLaws.glued_eq_join, StrLaws.join_split]
/-! ### [:-1], [-1:], endswith -/
theorem slice_init (t : List Nat) : Txt.slice (tx t) none (some (-1)) = tx (t.take (t.length - 1)) := by
  rw [slice_tx (a := 0) (b := t.length - 1) (Nat.zero_le _) (Nat.sub_le _ _) ?_, List.drop_zero, Nat.sub_zero]
  rw [tx_len]
  unfold Builtin.Str.strSliceIndices
  have e1 : max (0 : Int) (min (if (-1 : Int) < 0 then -1 + ((t.length : Nat) : Int) else -1) ((t.length : Nat) : Int)) = ((t.length - 1 : Nat) : Int) := by
    rw [if_pos (by decide)]
    omega
  have e2 : max (0 : Int) (min (if ((t.length - 1 : Nat) : Int) < 0 then ((t.length - 1 : Nat) : Int) + ((t.length : Nat) : Int) else ((t.length - 1 : Nat) : Int)) ((t.length : Nat) : Int)) = ((t.length - 1 : Nat) : Int) := by
    rw [if_neg (by omega)]
    omega
  have e3 : max (0 : Int) (min (if ((0 : Nat) : Int) < 0 then ((0 : Nat) : Int) + ((t.length : Nat) : Int) else ((0 : Nat) : Int)) ((t.length : Nat) : Int)) = 0 := by
    rw [if_neg (by omega)]
    omega
  simp only [show ((1 : Int) > 0) = True from by simp, if_true, e1, e2, e3]
theorem slice_last (t : List Nat) : Txt.slice (tx t) (some (-1)) none = tx (t.drop (t.length - 1)) := by
  rw [slice_tx (a := t.length - 1) (b := t.length) (Nat.sub_le _ _) (Nat.le_refl _) ?_, List.take_of_length_le (by rw [List.length_drop]; omega)]
  rw [tx_len]
  unfold Builtin.Str.strSliceIndices
  have e1 : max (0 : Int) (min (if (-1 : Int) < 0 then -1 + ((t.length : Nat) : Int) else -1) ((t.length : Nat) : Int)) = ((t.length - 1 : Nat) : Int) := by
    rw [if_pos (by decide)]
    omega
  have e2 : max (0 : Int) (min (if ((t.length - 1 : Nat) : Int) < 0 then ((t.length - 1 : Nat) : Int) + ((t.length : Nat) : Int) else ((t.length - 1 : Nat) : Int)) ((t.length : Nat) : Int)) = ((t.length - 1 : Nat) : Int) := by
    rw [if_neg (by omega)]
    omega
  have e3 : max (0 : Int) (min (if ((t.length : Nat) : Int) < 0 then ((t.length : Nat) : Int) + ((t.length : Nat) : Int) else ((t.length : Nat) : Int)) ((t.length : Nat) : Int)) = ((t.length : Nat) : Int) := by
    rw [if_neg (by omega)]
    omega
  simp only [show ((1 : Int) > 0) = True from by simp, if_true, e1, e2, e3]
theorem ends_col (t : List Nat) : Txt.endswith (tx t) (tx [58]) = decide (t.drop (t.length - 1) = [58]) := by
  rw [Bool.eq_iff_iff, decide_eq_true_iff]
  unfold Txt.endswith
  rw [tx_len, tx_len]
  rcases List.eq_nil_or_concat t with rfl | ⟨r, c, rfl⟩
  · constructor
    · intro h
      cases h
    · intro h
      cases h
  · rw [List.concat_eq_append, List.length_append]
    have e : (r ++ [c]).drop (r.length + [c].length - 1) = [c] := by
      rw [show r.length + [c].length - 1 = r.length from rfl, List.drop_append_of_le_length (Nat.le_refl _), List.drop_length]
      rfl
    rw [e]
    have e2 : Builtin.Str.subAt (tx (r ++ [c])) (tx [58]) (r.length + [c].length - [58].length) = decide (c = 58) := by
      show Builtin.Str.subAt (tx (r ++ [c])) (tx [58]) r.length = decide (c = 58)
      rw [Bool.eq_iff_iff, decide_eq_true_iff]
      rw [StrLaws.subAt_eq, tx_list, tx_list, tx_len, List.drop_append_of_le_length (Nat.le_refl _), List.drop_length]
      show ((([] ++ [c]).take 1) == [58]) = true ↔ c = 58
      simp
    rw [e2]
    simp
/-! ### what a text says -/
/-- all words are numbers below v -/
def goodW (v : Nat) (ts : List (List Nat)) : Bool := ts.all fun t => isN t && decide (valN t < v)
def parse (z : Str) : Option (Nat × List Nat) :=
  match wds z with
  | [] => none
  | h :: ts => if (decide (h.drop (h.length - 1) = [58]) && isN (h.take (h.length - 1)) && decide (1 ≤ valN (h.take (h.length - 1))) && decide (valN (h.take (h.length - 1)) ≤ 1000000) && goodW (valN (h.take (h.length - 1))) ts) = true then
      some (valN (h.take (h.length - 1)), ts.map valN) else none
theorem parse_some {z : Str} {p : Nat} {ns : List Nat} (e : parse z = some (p, ns)) : ∃ h ts, wds z = h :: ts ∧ h.drop (h.length - 1) = [58] ∧ isN (h.take (h.length - 1)) = true ∧ p = valN (h.take (h.length - 1)) ∧ 1 ≤ p ∧ p ≤ 1000000 ∧ ns = ts.map valN ∧ ∀ t ∈ ts, isN t = true ∧ valN t < p := by
  unfold parse at e
  cases hw : wds z with
  | nil => rw [hw] at e; cases e
  | cons h ts =>
    rw [hw] at e
    dsimp only at e
    by_cases c : (decide (h.drop (h.length - 1) = [58]) && isN (h.take (h.length - 1)) && decide (1 ≤ valN (h.take (h.length - 1))) && decide (valN (h.take (h.length - 1)) ≤ 1000000) && goodW (valN (h.take (h.length - 1))) ts) = true
    · rw [if_pos c] at e
      have e := Option.some.inj e
      have e1 : valN (h.take (h.length - 1)) = p := congrArg Prod.fst e
      have e2 : ts.map valN = ns := congrArg Prod.snd e
      simp only [Bool.and_eq_true, decide_eq_true_eq] at c
      obtain ⟨⟨⟨⟨c1, c2⟩, c3⟩, c4⟩, c5⟩ := c
      refine ⟨h, ts, rfl, c1, c2, e1.symm, by omega, by omega, e2.symm, fun t ht => ?_⟩
      unfold goodW at c5
      have := List.all_eq_true.mp c5 t ht
      simp only [Bool.and_eq_true, decide_eq_true_eq] at this
      rw [← e1]
      exact this
    · rw [if_neg c] at e
      cases e
theorem parse_mk {z : Str} {h : List Nat} {ts : List (List Nat)} (hw : wds z = h :: ts) (c1 : h.drop (h.length - 1) = [58]) (c2 : isN (h.take (h.length - 1)) = true) (c3 : 1 ≤ valN (h.take (h.length - 1))) (c4 : valN (h.take (h.length - 1)) ≤ 1000000) (c5 : ∀ t ∈ ts, isN t = true ∧ valN t < valN (h.take (h.length - 1))) :
    parse z = some (valN (h.take (h.length - 1)), ts.map valN) := by
  unfold parse
  rw [hw]
  dsimp only
  rw [if_pos]
  simp only [Bool.and_eq_true, decide_eq_true_eq]
  refine ⟨⟨⟨⟨c1, c2⟩, c3⟩, c4⟩, ?_⟩
  unfold goodW
  refine List.all_eq_true.mpr fun t ht => ?_
  simp only [Bool.and_eq_true, decide_eq_true_eq]
  exact c5 t ht
theorem parse_no {z : Str} {h : List Nat} {ts : List (List Nat)} (hw : wds z = h :: ts) (no : ¬ (h.drop (h.length - 1) = [58] ∧ isN (h.take (h.length - 1)) = true ∧ 1 ≤ valN (h.take (h.length - 1)) ∧ valN (h.take (h.length - 1)) ≤ 1000000 ∧ ∀ t ∈ ts, isN t = true ∧ valN t < valN (h.take (h.length - 1)))) : parse z = none := by
  cases e : parse z with
  | none => rfl
  | some pr =>
    obtain ⟨p, ns⟩ := pr
    obtain ⟨h', ts', hw', d1, d2, d3, d4, d5, d6, d7⟩ := parse_some e
    rw [hw] at hw'
    cases hw'
    exact absurd ⟨d1, d2, by omega, by omega, fun t ht => by rw [← d3]; exact d7 t ht⟩ no
/-- the text that says it -/
def txtOf (p : Nat) (ns : List Nat) : Str := Txt.join sp1 ((numT ((p : Nat) : Int) ++ tx [58]) :: ns.map fun n => numT ((n : Nat) : Int))
theorem parse_back {z : Str} {p : Nat} {ns : List Nat} (e : parse z = some (p, ns)) : txtOf p ns = z := by
  obtain ⟨h, ts, hw, d1, d2, d3, d4, d5, d6, d7⟩ := parse_some e
  have j := wds_join z
  rw [hw, List.map_cons] at j
  unfold txtOf
  have eh : numT ((p : Nat) : Int) ++ tx [58] = tx h := by
    rw [d3, isN_back d2, tx_add]
    congr 1
    rw [← d1]
    exact List.take_append_drop _ _
  have et : (ns.map fun n => numT ((n : Nat) : Int)) = ts.map tx := by
    rw [d6, List.map_map]
    exact List.map_congr_left fun t ht => isN_back (d7 t ht).1
  rw [eh, et]
  exact j
/-! ### number, _law_number -/
theorem s_figs : ("0123456789" : Str) = tx [48, 49, 50, 51, 52, 53, 54, 55, 56, 57] := by decide +kernel
theorem s_0 : ("0" : Str) = tx [48] := by decide +kernel
theorem in_figs (c : Nat) : (!(Builtin.Str.occurrences (tx [48, 49, 50, 51, 52, 53, 54, 55, 56, 57]) ⟨#[c]⟩ 0 (tx [48, 49, 50, 51, 52, 53, 54, 55, 56, 57]).length 1).isEmpty) = (decide (48 ≤ c) && decide (c ≤ 57)) := by
  rw [PySem.StrLaws.found_one, Bool.eq_iff_iff]
  simp [tx]
  omega
theorem dig_all {t : List Nat} : (t.all fun c => decide (48 ≤ c) && decide (c ≤ 57)) = true ↔ ∀ c ∈ t, 48 ≤ c ∧ c ≤ 57 := by
  rw [List.all_eq_true]
  simp only [Bool.and_eq_true, decide_eq_true_eq]
theorem isN_mk {t : List Nat} (h1 : 1 ≤ t.length) (h2 : t.length ≤ 7) (h3 : ∀ c ∈ t, 48 ≤ c ∧ c ≤ 57) (h4 : t.head? ≠ some 48 ∨ t.length = 1) : isN t = true := by
  unfold isN
  simp only [Bool.and_eq_true, Bool.or_eq_true, decide_eq_true_eq, List.all_eq_true]
  exact ⟨⟨⟨h1, h2⟩, h3⟩, h4⟩
theorem isN_no {t : List Nat} (h : ¬ (1 ≤ t.length ∧ t.length ≤ 7 ∧ (∀ c ∈ t, 48 ≤ c ∧ c ≤ 57) ∧ (t.head? ≠ some 48 ∨ t.length = 1))) : isN t = false := by
  cases e : isN t with
  | false => rfl
  | true => exact absurd ⟨(isN_len e).1, (isN_len e).2, isN_dig e, isN_zero e⟩ h
def spNumber (CX : Addr) : Sp := fun vs H Q E => ∃ t : List Nat, vs = [.str (tx t)] ∧ t.length ≤ 20000 ∧ (isN t = true → Q (.int ((valN t : Nat) : Int)) H) ∧ (isN t = false → E (.ref CX) none H)
theorem scNumber : FnScope ["word", "sign"] ["word"] (defScope sNumber) := ⟨rfl, rfl, rfl, by decide +kernel, rfl, by decide +kernel, by decide +kernel⟩
theorem head_at {t : List Nat} (h : 0 < t.length) : ∃ c, t.head? = some c ∧ atI (tx t).cps.toList 0 = some c := by
  cases t with
  | nil => exact absurd h (by decide)
  | cons c r => exact ⟨c, rfl, by rw [tx_list]; exact atI_nat (j := 0) rfl⟩
theorem size20 {n : Nat} (h : n ≤ 20000) : n ≤ sizeLine := by
  have : sizeLine = 16777216 := rfl
  omega
set_option maxHeartbeats 8000000 in
theorem d_number {CX : Addr} (S : Src K mg "number" sNumber ["word"]) (B : Bt K mg) (xx : XC K CX) (mx : mg "BadText" = some (.ref CX)) (hf : ∃ t, mg "FIGURES" = some (.str "0123456789" t)) (hm : ∃ t, mg "MOST_FIGURES" = some (.int 7 t)) : DefX P w K mg base 1 "number" ["word"] (spNumber CX) := by
  obtain ⟨tf, hf⟩ := hf
  obtain ⟨tm, hm⟩ := hm
  refine S.okL scNumber (fun vs H Q E ⟨t, e, _⟩ => by rw [e]; rfl) (fun f cdv A outer s H vs Q E hr h => ?_)
  obtain ⟨t, rfl, hlen, k1, k2⟩ := h
  refine ⟨_, fun own => pss_cons (ps_if (pw_or (pt_cmp (pc_lt (pe_callB call_len_str (by rfl) B.len b_len (pa_cons (pv 0) pa_nil)) pe_int)) (pw_or1 (pt_cmp (pc_gt (pe_callB call_len_str (by rfl) B.len b_len (pa_cons (pv 0) pa_nil)) (pe_glob (v := .int 7) (by rfl) hm ⟨tm, rfl⟩))))).pt (pss_one (ps_raise xx rfl (by rfl) mx makesL (pa_cons pe_str pa_nil))) pss_nil)
    (pss_cons (ps_for own rfl (pi_str (pv 0)) (pg_name (i := 1) scNumber.nd rfl (Or.inl rfl))
      (pss_one (ps_if (pt_cmpR op_notIn_str (pv 1) (pe_glob (v := .str "0123456789") (by rfl) hf ⟨tf, rfl⟩) (by with_unfolding_all rfl)) (pss_one (ps_raise xx rfl (by rfl) mx makesL (pa_cons pe_str pa_nil))) pss_nil)))
    (pss_cons (ps_if (pw_and (pt_cmpR op_eq (pe_ix ix_str (pv 0) pe_int (fun _ _ => rfl)) pe_str (nomark _)) (pw_and1 (pt_cmp (pc_gt (pe_callB call_len_str (by rfl) B.len b_len (pa_cons (pv 0) pa_nil)) pe_int)))).pt (pss_one (ps_raise xx rfl (by rfl) mx makesL (pa_cons pe_str pa_nil))) pss_nil)
    (pss_one (ps_ret (pe_callTy call_intT (by rfl) B.int b_int (pa_cons (pv 0) pa_nil)))))), ?_⟩
  have hz : (tx t).length ≤ sizeLine := by rw [tx_len]; exact size20 hlen
  refine ⟨_, rfl, tx t, rfl, hz, _, _, rfl, rfl, _, rfl, ?_⟩
  rw [tx_len]
  refine ite2d (fun c => ?_) (fun c => ?_)
  · exact ⟨by decide, k2 (isN_no fun z => by omega)⟩
  refine ⟨_, rfl, tx t, rfl, hz, _, _, rfl, rfl, _, rfl, ?_⟩
  rw [tx_len]
  refine ite2d (fun c2 => ?_) (fun c2 => ?_)
  · exact ⟨by decide, k2 (isN_no fun z => by omega)⟩
  refine ⟨_, rfl, _, rfl, for_str (z := tx t) (fun i σ H' => ∃ v1 : Option V, σ = [some (.str (tx t)), v1] ∧ (∀ c ∈ t.take i, 48 ≤ c ∧ c ≤ 57) ∧ H' = H) ⟨none, rfl, by simp, rfl⟩ ?_ ?_⟩
  · rintro i c σ H' hc ⟨v1, rfl, hd, rfl⟩
    have hc := tx_at hc
    refine ⟨_, rfl, _, _, rfl, rfl, _, rfl, ?_⟩
    rw [s_figs, in_figs]
    by_cases d : 48 ≤ c ∧ c ≤ 57
    · rw [decide_eq_true d.1, decide_eq_true d.2]
      refine iteF ⟨_, rfl, fun x hx => ?_, rfl⟩
      rw [take_succ_at hc] at hx
      rcases List.mem_append.mp hx with z | z
      · exact hd x z
      · rw [List.mem_singleton.mp z]; exact d
    · have e : (decide (48 ≤ c) && decide (c ≤ 57)) = false := by
        rw [Bool.and_eq_false_iff]
        by_cases d1 : 48 ≤ c
        · exact .inr (decide_eq_false fun d2 => d ⟨d1, d2⟩)
        · exact .inl (decide_eq_false d1)
      rw [e]
      exact iteT ⟨by decide, k2 (isN_no fun z => d (z.2.2.1 c (List.mem_of_getElem? hc)))⟩
  · rintro σ H' ⟨v1, rfl, hd, rfl⟩
    rw [tx_size, List.take_length] at hd
    obtain ⟨c0, h0, ha0⟩ := head_at (t := t) (by omega)
    refine ⟨_, rfl, _, _, c0, rfl, rfl, hz, ha0, ?_⟩
    refine ⟨rfl, _, rfl, ?_⟩
    rw [s_0]
    by_cases z0 : c0 = 48
    · rw [decide_eq_true (one_eq.mpr z0)]
      refine iteT ?_
      refine ⟨_, rfl, tx t, rfl, hz, _, _, rfl, rfl, _, rfl, ?_⟩
      rw [tx_len]
      refine ite2d (fun c3 => ?_) (fun c3 => ?_)
      · refine ⟨by decide, k2 (isN_no fun z => ?_)⟩
        rcases z.2.2.2 with q | q
        · exact q (by rw [h0, z0])
        · omega
      · have g := isN_mk (t := t) (by omega) (by omega) hd (.inr (by omega))
        exact ⟨_, rfl, tx t, _, rfl, by rw [tx_len]; omega, isN_int g, k1 g⟩
    · rw [decide_eq_false fun q => z0 (one_eq.mp q)]
      refine iteF ?_
      have g := isN_mk (t := t) (by omega) (by omega) hd (.inl (by rw [h0]; intro q; exact z0 (Option.some.inj q)))
      exact ⟨_, rfl, tx t, _, rfl, by rw [tx_len]; omega, isN_int g, k1 g⟩
/-- None or the number -/
def numV' (t : List Nat) : V := if isN t = true then .int ((valN t : Nat) : Int) else .non
def spNumL : Sp := fun vs H Q _ => ∃ t : List Nat, vs = [.str (tx t)] ∧ t.length ≤ 20000 ∧ ∀ H', Same H H' → Q (numV' t) H'
theorem scNumL : FnScope ["_law_word"] ["_law_word"] (defScope sNumL) := ⟨rfl, rfl, rfl, by decide +kernel, rfl, by decide +kernel, by decide +kernel⟩
theorem numV_yes {t : List Nat} (h : isN t = true) : numV' t = .int ((valN t : Nat) : Int) := if_pos h
theorem numV_no {t : List Nat} (h : isN t = false) : numV' t = .non := if_neg (by rw [h]; exact Bool.false_ne_true)
theorem tx_eq {a b : List Nat} : (V.str (tx a) = V.str (tx b)) ↔ a = b := ⟨fun h => tx_inj (V.str.inj h), fun h => by rw [h]⟩
def digB (t : List Nat) : List Bool := t.map fun c => decide (48 ≤ c) && decide (c ≤ 57)
theorem digB_all (t : List Nat) : (digB t).all id = true ↔ ∀ c ∈ t, 48 ≤ c ∧ c ≤ 57 := by
  unfold digB
  rw [List.all_map]
  show (t.all fun c => decide (48 ≤ c) && decide (c ≤ 57)) = true ↔ _
  exact dig_all
theorem comp_str {z : Str} {g : TG} {tc : TT} {te : TE} {σ0 : St} {H0 : Hp} {Q : VK} (G : Nat → List V) (Sg : Nat → St → Hp → Prop) (hz : z.cps.size ≤ sizeLine) (hG : ∀ i, i ≤ z.cps.size → (G i).length ≤ i) (g0 : G 0 = []) (s0 : Sg 0 σ0 H0)
    (hs : ∀ i c σ H, z.cps[i]? = some c → Sg i σ H → g (.str ⟨#[c]⟩) σ H fun σ2 H2 => tc σ2 H2 fun b H3 => if b = true then te σ2 H3 fun y H4 => CNx z.cps.size G Sg i (G i ++ [y]) σ2 H4 else CNx z.cps.size G Sg i (G i) σ2 H3)
    (fin : ∀ σ H p, Sg z.cps.size σ H → H p = none → Q (.ref p) (upd H p (.lst (G z.cps.size)))) : tCompW g tc te (Its z) σ0 H0 Q := by
  refine ⟨fun i m acc σ H' => m = z.cps.size - i ∧ i ≤ z.cps.size ∧ acc = G i ∧ Sg i σ H', ⟨z.cps.size, by simp, Nat.zero_le _, g0.symm, s0⟩, ?_⟩
  rintro i m acc σ H ⟨rfl, hi, rfl, hS⟩
  by_cases hlt : i < z.cps.size
  · refine .inr ⟨hlt, by have := hG i hi; omega, fun x H1 y => ?_⟩
    obtain ⟨rfl, c, hc, rfl⟩ := y
    exact hs i c σ _ hc hS
  · have e : i = z.cps.size := by omega
    subst e
    exact .inl ⟨rfl, fun p hp => fin σ H p hS hp⟩
set_option maxHeartbeats 8000000 in
theorem d_numl (S : Src K mg "_law_number" sNumL ["_law_word"]) (B : Bt K mg) : Def P w K mg base 1 "_law_number" ["_law_word"] spNumL := by
  refine S.ok scNumL (fun vs H Q E ⟨t, e, _⟩ => by rw [e]; rfl) (fun f cdv A outer s H vs Q E hr h => ?_)
  obtain ⟨t, rfl, hlen, k⟩ := h
  refine ⟨_, pss_cons (ps_if (pw_or (pt_cmpR op_eq (pv 0) pe_str (nomark _)) (pw_or (pt_cmp (pc_gt (pe_callB call_len_str (by rfl) B.len b_len (pa_cons (pv 0) pa_nil)) pe_int))
      (pw_or1 (pt_not (pt_val (pe_callB (call_all rfl) (by rfl) B.all b_all (pa_cons (pe_comp (sc := defScope sNumL) ["_law_word"] ["_law_sign"] [none] ⟨rfl, by decide +kernel, by decide +kernel, by decide +kernel, by decide +kernel, rfl, by decide +kernel⟩ rfl rfl rfl (pi_str (pv 0))
        (fun C s H fp nd => ⟨pg_name (i := 0) nd rfl (Or.inl rfl), pts_nil, pe_cmpR op_in_str (pv 0) pe_str (by with_unfolding_all rfl)⟩)) pa_nil))))))).pt (pss_one (ps_ret pe_non)) pss_nil)
    (pss_cons (ps_if (pw_and (pt_cmpR op_eq (pe_ix ix_str (pv 0) pe_int (fun _ _ => rfl)) pe_str (nomark _)) (pw_and1 (pt_cmpR op_ne (pv 0) pe_str (nomark _)))).pt (pss_one (ps_ret pe_non)) pss_nil)
    (pss_one (ps_ret (pe_callTy call_intT (by rfl) B.int b_int (pa_cons (pv 0) pa_nil))))), ?_⟩
  have hz : (tx t).length ≤ sizeLine := by rw [tx_len]; exact size20 hlen
  refine ⟨_, rfl, rfl, _, rfl, ?_⟩
  rw [s_e]
  refine ite2d (fun c => ?_) (fun c => ?_)
  · have e := tx_eq.mp c
    have n : isN t = false := isN_no fun z => by rw [e] at z; exact absurd z.1 (by decide)
    have := k H (Same.refl _)
    rw [numV_no n] at this
    exact this
  have t1 : 1 ≤ t.length := by
    cases t with
    | nil => exact absurd rfl c
    | cons => exact Nat.le_add_left _ _
  refine ⟨_, rfl, tx t, rfl, hz, _, _, rfl, rfl, _, rfl, ?_⟩
  rw [tx_len]
  refine ite2d (fun c2 => ?_) (fun c2 => ?_)
  · have n : isN t = false := isN_no fun z => by omega
    have := k H (Same.refl _)
    rw [numV_no n] at this
    exact this
  refine ⟨_, rfl, _, rfl, ?_⟩
  refine comp_str (z := tx t) (fun i => (digB (t.take i)).map V.bl) (fun i σ H' => H' = H ∧ σ.length = 1) hz (fun i _ => ?_) rfl ⟨rfl, rfl⟩ ?_ ?_
  · unfold digB
    rw [List.length_map, List.length_map, List.length_take]
    omega
  · rintro i c σ H' hc ⟨rfl, hσ⟩
    have hi : i < (tx t).cps.size := (Array.getElem?_eq_some_iff.mp hc).1
    have hc := tx_at hc
    match σ, hσ with
    | [v], _ =>
      refine g_name ?_
      refine t_true ?_
      refine iteT ?_
      refine ⟨_, rfl, _, _, rfl, rfl, ?_⟩
      rw [s_figs, in_figs]
      refine cnx hi ?_ ⟨rfl, rfl⟩
      unfold digB
      rw [take_succ_at hc, List.map_append, List.map_append]
      rfl
  rintro σ H' p ⟨rfl, _⟩ np
  rw [tx_size, List.take_length]
  refine ⟨p, digB t, rfl, SqL.of upd_same, _, rfl, ?_⟩
  have sm : Same H' (upd H' p (.lst ((digB t).map V.bl))) := Same.new np
  cases e : (digB t).all id with
  | false =>
    refine iteT ?_
    have n : isN t = false := isN_no fun z => by
      have := (digB_all t).mpr z.2.2.1
      rw [e] at this
      cases this
    have := k _ sm
    rw [numV_no n] at this
    exact this
  | true =>
    refine iteF ?_
    have hd := (digB_all t).mp e
    obtain ⟨c0, h0, ha0⟩ := head_at (t := t) (by omega)
    refine ⟨_, rfl, _, _, c0, rfl, rfl, hz, ha0, rfl, _, rfl, ?_⟩
    rw [s_0]
    have yes : (t.head? ≠ some 48 ∨ t.length = 1) → isN t = true := fun z => isN_mk t1 (by omega) hd z
    by_cases z0 : c0 = 48
    · rw [decide_eq_true (one_eq.mpr z0)]
      refine iteT ?_
      refine ⟨_, rfl, rfl, _, rfl, ?_⟩
      by_cases z1 : t = [48]
      · rw [decide_eq_true (tx_eq.mpr z1)]
        refine iteF ?_
        have g := yes (.inr (by rw [z1]; rfl))
        have q := k _ sm
        rw [numV_yes g] at q
        exact ⟨_, rfl, tx t, _, rfl, by rw [tx_len]; omega, isN_int g, q⟩
      · rw [decide_eq_false fun q => z1 (tx_eq.mp q)]
        refine iteT ?_
        have n : isN t = false := isN_no fun z => by
          rcases z.2.2.2 with q | q
          · exact q (by rw [h0, z0])
          · refine z1 ?_
            cases t with
            | nil => cases q
            | cons x r =>
              cases r with
              | nil => cases h0; rw [z0]
              | cons => cases q
        have q := k _ sm
        rw [numV_no n] at q
        exact q
    · rw [decide_eq_false fun q => z0 (one_eq.mp q)]
      refine iteF ?_
      have g := yes (.inl (by rw [h0]; intro q; exact z0 (Option.some.inj q)))
      have q := k _ sm
      rw [numV_yes g] at q
      exact ⟨_, rfl, tx t, _, rfl, by rw [tx_len]; omega, isN_int g, q⟩
/-! ### written -/
theorem takeX {α : Type} {l : List α} {i : Nat} {x : α} (h : l[i]? = some x) : l.take (i + 1) = l.take i ++ [x] := by
  rw [List.take_succ, h]
  rfl
theorem big20 {n : Nat} (h : n ≤ 20000) : n ≤ sizeLine := size20 h
def vS (ns : List Nat) : List V := ns.map fun n => V.str (numT ((n : Nat) : Int))
theorem vS_snoc (ns : List Nat) (n : Nat) : vS (ns ++ [n]) = vS ns ++ [V.str (numT ((n : Nat) : Int))] := by
  unfold vS
  rw [List.map_append]
  rfl
theorem sum_num {ns : List Nat} (h : ∀ n ∈ ns, n ≤ 10000000) : ((ns.map fun n => numT ((n : Nat) : Int)).map (·.length)).sum ≤ ns.length * 10 := by
  induction ns with
  | nil => exact Nat.le_refl _
  | cons n r ih =>
    have i := ih fun x hx => h x (List.mem_cons_of_mem _ hx)
    have l := numT_len (h n List.mem_cons_self)
    simp only [List.map_cons, List.sum_cons, List.length_cons]
    simp only [List.map_map] at i ⊢
    omega
def spWritten : Sp := fun vs H Q _ => ∃ (p : Nat) (a : Addr) (ws : List Nat), vs = [.int (p : Int), .ref a] ∧ H a = some (.lst (vI ws)) ∧ (∀ w ∈ ws, w < p) ∧ 1 ≤ p ∧ p ≤ 1000000 ∧ ws.length ≤ 20000 ∧ ∀ H', Same H H' → Q (.str (txtOf p ws)) H'
theorem scWritten : FnScope ["places", "wishes"] ["places", "wishes"] (defScope sWritten) := ⟨rfl, rfl, rfl, by decide +kernel, rfl, by decide +kernel, by decide +kernel⟩
theorem join_fits {p : Nat} {ws : List Nat} (hp : p ≤ 1000000) (hw : ∀ w ∈ ws, w < p) (hl : ws.length ≤ 20000) : (((numT ((p : Nat) : Int) ++ tx [58]) :: ws.map fun n => numT ((n : Nat) : Int)).map (·.length)).sum + ((numT ((p : Nat) : Int) ++ tx [58]) :: ws.map fun n => numT ((n : Nat) : Int)).length * sp1.length ≤ 16777216 := by
  have a := sum_num (ns := ws) fun n hn => by have := hw n hn; omega
  have b := numT_len (n := p) (by omega)
  have c : sp1.length = 1 := rfl
  have d : (numT ((p : Nat) : Int) ++ tx [58]).length = (numT ((p : Nat) : Int)).length + 1 := by rw [Str.length_append]; rfl
  rw [List.map_cons, List.sum_cons, List.length_cons, List.length_map, c, d]
  omega
theorem d_written (S : Src K mg "written" sWritten ["places", "wishes"]) (B2 : Bt2 mg) (D1 : Def P w K mg base 3 "check_street" ["places", "wishes"] spChkStreet) : Def P w K mg base 4 "written" ["places", "wishes"] spWritten := by
  refine S.ok scWritten (fun vs H Q E ⟨p, a, ws, e, _⟩ => by rw [e]; rfl) (fun f cdv A outer s H vs Q E hr h => ?_)
  obtain ⟨p, a, ws, rfl, ha, hw, p1, p2, hlen, k⟩ := h
  refine ⟨_, pss_cons (ps_expr (pe_callD D1 hr (by rfl) (pa_cons (pv 0) (pa_cons (pv 1) pa_nil))))
    (pss_one (ps_ret (pe_bm PySem.F.plainAttrs_str PySem.F.slot_str_join PySem.F.type_str_join mt_join pe_str (pa_cons (pe_op op_cat (pe_lst (pa_cons (pe_fld1 (pv 0)) pa_nil)) (pe_comp (sc := defScope sWritten) ["places", "wishes"] ["wish"] [none]
      ⟨rfl, by decide +kernel, by decide +kernel, by decide +kernel, by decide +kernel, rfl, by decide +kernel⟩ rfl rfl rfl (pi_list (pv 1)) (fun C s H fp nd => ⟨pg_name (i := 0) nd rfl (Or.inl rfl), pts_nil, pe_callTy call_strI (by rfl) B2.str b_str (pa_cons (pv 0) pa_nil)⟩))) pa_nil)))), ?_⟩
  refine ⟨_, rfl, _, rfl, p, a, ws, rfl, ha, hw, p1, p2, ?_⟩
  have lp := numT_len (n := p) (by omega)
  refine ⟨rfl, _, rfl, (p : Int), rfl, num_log (by omega), ?_, ?_⟩
  · have : (":" : Str).length = 1 := rfl
    rw [this]
    exact big20 (by omega)
  refine ⟨(by show (1 : Nat) ≤ sizeLine; decide), fun l1 n1 => ?_⟩
  have s1 : Same H (upd H l1 (.lst [.str (numT ((p : Nat) : Int) ++ ":")])) := Same.new n1
  have h1 : (upd H l1 (.lst [.str (numT ((p : Nat) : Int) ++ ":")])) l1 = some (.lst [.str (numT ((p : Nat) : Int) ++ ":")]) := upd_same
  generalize upd H l1 (.lst [.str (numT ((p : Nat) : Int) ++ ":")]) = H1 at s1 h1
  have ha1 := s1 _ _ ha
  refine ⟨_, rfl, a, rfl, ⟨_, SqL.of ha1⟩, ?_⟩
  refine comp_list (xs := vI ws) (fun i => vS (ws.take i)) (fun i σ H' => H' = H1 ∧ σ.length = 1) (by rw [vI_len]; exact big20 hlen) (fun i _ => by unfold vS; rw [List.length_map, List.length_take]; omega) rfl ⟨rfl, rfl⟩ (fun i σ H' e => by rw [e.1]; exact SqL.of ha1) ?_ ?_
  · rintro i y σ H' hy hi ⟨rfl, hσ⟩
    obtain ⟨n, hn, rfl⟩ := vI_at hy
    have hwn := hw n (List.mem_of_getElem? hn)
    match σ, hσ with
    | [v], _ =>
      refine g_name ?_
      refine t_true ?_
      refine iteT ?_
      refine ⟨_, rfl, ((n : Nat) : Int), rfl, num_log (by omega), cnx hi ?_ ⟨rfl, rfl⟩⟩
      rw [take_succ_at hn, vS_snoc]
  rintro σ H' q ⟨rfl, _⟩ nq
  rw [vI_len, List.take_length]
  have s2 := s1.next (o := .lst (vS ws)) nq
  have h2 : (upd H' q (.lst (vS ws))) l1 = some (.lst [.str (numT ((p : Nat) : Int) ++ ":")]) := by rw [upd_ne (ne_of_none h1 nq)]; exact h1
  refine ⟨l1, q, _, vS ws, rfl, rfl, h2, upd_same, ?_, fun l3 n3 => ?_⟩
  · unfold vS
    rw [List.length_map]
    show 1 + ws.length ≤ sizeLine
    have : sizeLine = 16777216 := rfl
    omega
  have e : [V.str (numT ((p : Nat) : Int) ++ ":")] ++ vS ws = ((numT ((p : Nat) : Int) ++ tx [58]) :: ws.map fun n => numT ((n : Nat) : Int)).map V.str := by
    rw [s_col, List.map_cons, List.map_map]
    rfl
  rw [e]
  refine ⟨_, l3, _, rfl, rfl, SqL.of upd_same, ?_, ?_⟩
  · rw [s_sp]
    exact join_fits p2 hw hlen
  · rw [s_sp]
    exact k _ (s2.next n3)
/-! ### read -/
def spRead (K : PySem.W.Frag) (CX : Addr) : Sp := fun vs H Q E => ∃ v, vs = [v] ∧ Any K H v ∧ (∀ z : Str, v = .str z → z.length ≤ 10000 ∧
    (∀ p ns, parse z = some (p, ns) → ∀ (tp l : Addr) (H' : Hp), H l = none → H' l = some (.lst (vI ns)) → H' tp = some (.tup [.int (p : Int), .ref l]) → Same H H' → Q (.ref tp) H') ∧ (parse z = none → ∀ H', Same H H' → E (.ref CX) none H')) ∧ ((∀ z, v ≠ .str z) → E (.ref CX) none H)
theorem scRead : FnScope ["text", "words", "places", "wishes"] ["text"] (defScope sRead) := ⟨rfl, rfl, rfl, by decide +kernel, rfl, by decide +kernel, by decide +kernel⟩
def vW (ts : List (List Nat)) : List V := ts.map fun t => V.str (tx t)
theorem vW_at {ts : List (List Nat)} {i : Nat} {x : V} (h : (vW ts)[i]? = some x) : ∃ t, ts[i]? = some t ∧ x = .str (tx t) := by
  unfold vW at h
  rw [List.getElem?_map] at h
  cases e : ts[i]? with
  | none => rw [e] at h; cases h
  | some t => rw [e] at h; cases h; exact ⟨t, rfl, rfl⟩
theorem vW_len (ts : List (List Nat)) : (vW ts).length = ts.length := by unfold vW; rw [List.length_map]
theorem vals_take {ts : List (List Nat)} {i : Nat} {t : List Nat} (h : ts[i]? = some t) : vI ((ts.take (i + 1)).map valN) = vI ((ts.take i).map valN) ++ [V.int ((valN t : Nat) : Int)] := by
  rw [takeX h, List.map_append, List.map_cons, List.map_nil, vI_snoc]
theorem below_all {v : Nat} {ns : List Nat} : ((vI ns).all fun x => !badV v x) = true ↔ ∀ n ∈ ns, n < v := by
  constructor
  · intro h
    obtain ⟨ps, e, hp⟩ := goodV h
    obtain rfl := vI_inj e
    exact hp
  · exact goodI
set_option maxHeartbeats 16000000 in
theorem d_read {CX : Addr} (S : Src K mg "read" sRead ["text"]) (B : Bt K mg) (B2 : Bt2 mg) (xx : XC K CX) (mx : mg "BadText" = some (.ref CX)) (D1 : DefX P w K mg base 1 "number" ["word"] (spNumber CX)) (D2 : Def P w K mg base 2 "is_street" ["places"] (spIsStreet K)) (D3 : Def P w K mg base 2 "is_each_below" ["bound", "things"] (spEachB K)) :
    DefX P w K mg base 3 "read" ["text"] (spRead K CX) := by
  refine S.okM scRead (fun vs H Q E ⟨v, e, _⟩ => by rw [e]; rfl) (fun f cdv A outer s H vs Q E hr h => ?_)
  obtain ⟨v, rfl, hv, k1, k2⟩ := h
  have hr1 := hr.mono (show 1 ≤ 2 by decide)
  obtain ⟨ty, b, hty, e1, e2, e3⟩ := hv.isS
  refine ⟨_, pss_cons (ps_if (pt_not (pt_val (pe_callB call_isi (by rfl) B.isi b_isi (pa_cons (pv 0) (pa_cons (pe_bltn (v := .ty "str") (by rfl) B2.str b_str rfl) pa_nil))))) (pss_one (ps_raise xx rfl (by rfl) mx makesM (pa_cons pe_str pa_nil))) pss_nil)
    (pss_cons (ps_set (i := 1) scRead.nd rfl (Or.inl rfl) (pe_bm PySem.F.plainAttrs_str PySem.F.slot_str_split PySem.F.type_str_split mt_split (pv 0) (pa_cons pe_str pa_nil)))
    (pss_cons (ps_if (pt_not (pt_val (pe_bm PySem.F.plainAttrs_str PySem.F.slot_str_endswith PySem.F.type_str_endswith mt_ends (pe_ix ix_list (pv 1) pe_int (fun _ _ => rfl)) (pa_cons pe_str pa_nil)))) (pss_one (ps_raise xx rfl (by rfl) mx makesM (pa_cons pe_str pa_nil))) pss_nil)
    (pss_cons (ps_set (i := 2) scRead.nd rfl (Or.inl rfl) (pe_callX D1 hr1 (by rfl) (passM fun _ _ _ q => q) (pa_cons (pe_slice sl_str (pe_ix ix_list (pv 1) pe_int (fun _ _ => rfl)) po_none (po_some (pe_un un_neg pe_int))) pa_nil)))
    (pss_cons (ps_setCM (i := 3) rfl rfl rfl rfl scRead.nd rfl (Or.inl rfl) (sc := defScope sRead) ["text", "words", "places", "wishes"] ["word"] [none] ⟨rfl, by decide +kernel, by decide +kernel, by decide +kernel, by decide +kernel, rfl, by decide +kernel⟩ rfl rfl rfl
      (pi_list (pe_slice sl_list (pv 1) (po_some pe_int) po_none)) (fun C s H fp nd hx => ⟨pg_name (i := 0) nd rfl (Or.inl rfl), pts_nil, pe_callX D1 hr1 (by rfl) hx (pa_cons (pv 0) pa_nil)⟩))
    (pss_cons (ps_if (pw_or (pt_not (pt_val (pe_callD D2 hr (by rfl) (pa_cons (pv 2) pa_nil)))) (pw_or1 (pt_not (pt_val (pe_callD D3 hr (by rfl) (pa_cons (pv 2) (pa_cons (pv 3) pa_nil))))))).pt (pss_one (ps_raise xx rfl (by rfl) mx makesM (pa_cons pe_str pa_nil))) pss_nil)
    (pss_one (ps_ret (pe_tup (pa_cons (pv 2) (pa_cons (pv 3) pa_nil)))))))))), ?_⟩
  refine ⟨_, rfl, _, _, _, _, _, rfl, hty, .inl ⟨_, rfl, rfl⟩, e1, _, rfl, ?_⟩
  cases b with
  | false => exact iteT ⟨by decide, k2 (e3 rfl)⟩
  | true =>
    obtain ⟨z, rfl⟩ := e2 rfl
    obtain ⟨hlen, g1, g2⟩ := k1 z rfl
    refine iteF ?_
    refine ⟨_, rfl, rfl, z, " ", rfl, rfl, rfl, ?_, fun l0 n0 => ?_⟩
    · have : sizeLine = 16777216 := rfl
      omega
    rw [s_sp, wds_str]
    have s0 : Same H (upd H l0 (.lst (vW (wds z)))) := Same.new n0
    have h0 : (upd H l0 (.lst (vW (wds z)))) l0 = some (.lst (vW (wds z))) := upd_same
    show gName 1 (V.ref l0) _ (upd H l0 (.lst (vW (wds z)))) _
    refine g_name ?_
    generalize upd H l0 (.lst (vW (wds z))) = H1 at s0 h0
    have wl := wds_len z
    have wsh := fun t (ht : t ∈ wds z) => wds_short ht
    obtain ⟨hd, ts, hw⟩ : ∃ hd ts, wds z = hd :: ts := by
      cases e : wds z with
      | nil => exact absurd e (wds_ne z)
      | cons a r => exact ⟨a, r, rfl⟩
    rw [hw] at h0 wl wsh
    have hdl := wsh hd List.mem_cons_self
    refine ⟨_, rfl, l0, _, 0, .str (tx hd), rfl, rfl, SqL.of h0, atI_nat (j := 0) rfl, rfl, tx hd, ":", rfl, rfl, _, rfl, ?_⟩
    rw [s_col, ends_col]
    by_cases c1 : hd.drop (hd.length - 1) = [58]
    · rw [decide_eq_true c1]
      refine iteF ?_
      refine ⟨_, rfl, l0, _, 0, .str (tx hd), rfl, rfl, SqL.of h0, atI_nat (j := 0) rfl, ?_⟩
      refine ⟨_, rfl, _, rfl, tx hd, rfl, by rw [tx_len]; exact big20 (by omega), ?_⟩
      rw [show (-(1 : Int)) = -1 from rfl, slice_init]
      refine ⟨hd.take (hd.length - 1), rfl, by rw [List.length_take]; omega, fun y1 => ?_, fun y1 => ?_⟩
      · -- the places are a number
        have v9 := valN_le y1
        refine ⟨_, rfl, 1, rfl, l0, _, rfl, SqL.of h0, fun l1 n1 => ?_⟩
        have ec : cutV (vW (hd :: ts)) (some 1) none = vW ts := by
          have := cut_lo (xs := vW (hd :: ts)) (m := 1) (by rw [vW_len]; exact Nat.le_add_left _ _)
          rw [show ((1 : Nat) : Int) = 1 from rfl] at this
          rw [this]
          rfl
        rw [ec]
        have s1 := s0.next (o := .lst (vW ts)) n1
        have h1 : (upd H1 l1 (.lst (vW ts))) l1 = some (.lst (vW ts)) := upd_same
        generalize upd H1 l1 (.lst (vW ts)) = H2 at s1 h1
        refine ⟨l1, rfl, ⟨_, SqL.of h1⟩, ?_⟩
        have tl : ts.length ≤ 10001 := by
          rw [List.length_cons] at wl
          omega
        refine comp_list (xs := vW ts) (fun i => vI ((ts.take i).map valN)) (fun i σ H' => H' = H2 ∧ σ.length = 1 ∧ ∀ t ∈ ts.take i, isN t = true) (by rw [vW_len]; exact big20 (by omega)) (fun i _ => by rw [vI_len, List.length_map, List.length_take]; omega) rfl ⟨rfl, rfl, by simp⟩ (fun i σ H' e => by rw [e.1]; exact SqL.of h1) ?_ ?_
        · rintro i y σ H' hy hi ⟨rfl, hσ, hg⟩
          obtain ⟨t, ht, rfl⟩ := vW_at hy
          have mt := List.mem_of_getElem? ht
          have hts := wsh t (List.mem_cons_of_mem _ mt)
          match σ, hσ with
          | [v], _ =>
            refine g_name ?_
            refine t_true ?_
            refine iteT ?_
            refine ⟨_, rfl, t, rfl, by omega, fun g => ?_, fun g => ?_⟩
            · refine cnx hi (vals_take ht).symm ⟨rfl, rfl, fun x hx => ?_⟩
              rw [takeX ht] at hx
              rcases List.mem_append.mp hx with q | q
              · exact hg x q
              · rw [List.mem_singleton.mp q]; exact g
            · exact g2 (parse_no hw fun q => by
                have := (q.2.2.2.2 t mt).1
                rw [g] at this
                cases this) _ s1
        rintro σ H' l2 ⟨rfl, _, hg⟩ n2
        rw [vW_len, List.take_length] at hg
        rw [vW_len, List.take_length]
        have s2 := s1.next (o := .lst (vI (ts.map valN))) n2
        have h2 : (upd H' l2 (.lst (vI (ts.map valN)))) l2 = some (.lst (vI (ts.map valN))) := upd_same
        have n2H : H l2 = none := s1.free n2
        generalize upd H' l2 (.lst (vI (ts.map valN))) = H3 at s2 h2
        refine ⟨_, rfl, .int ((valN (hd.take (hd.length - 1)) : Nat) : Int), rfl, .int _, _, rfl, ?_⟩
        cases es : stV (.int ((valN (hd.take (hd.length - 1)) : Nat) : Int)) with
        | false =>
          refine iteT ⟨by decide, g2 (parse_no hw fun q => ?_) _ s2⟩
          have es : (decide (1 ≤ ((valN (hd.take (hd.length - 1)) : Nat) : Int)) && decide (((valN (hd.take (hd.length - 1)) : Nat) : Int) ≤ 1000000)) = false := es
          rw [decide_eq_true (show 1 ≤ ((valN (hd.take (hd.length - 1)) : Nat) : Int) by have := q.2.2.1; omega), decide_eq_true (show ((valN (hd.take (hd.length - 1)) : Nat) : Int) ≤ 1000000 by have := q.2.2.2.1; omega)] at es
          cases es
        | true =>
          refine iteF ?_
          have es : (decide (1 ≤ ((valN (hd.take (hd.length - 1)) : Nat) : Int)) && decide (((valN (hd.take (hd.length - 1)) : Nat) : Int) ≤ 1000000)) = true := es
          rw [Bool.and_eq_true, decide_eq_true_iff, decide_eq_true_iff] at es
          refine ⟨_, rfl, _, rfl, valN (hd.take (hd.length - 1)), l2, vI (ts.map valN), rfl, h2, anyI K H3 (toI _), _, rfl, ?_⟩
          cases eb : ((vI (ts.map valN)).all fun x => !badV (valN (hd.take (hd.length - 1))) x) with
          | false =>
            refine iteT ⟨by decide, g2 (parse_no hw fun q => ?_) _ s2⟩
            have : ((vI (ts.map valN)).all fun x => !badV (valN (hd.take (hd.length - 1))) x) = true := below_all.mpr fun n hn => by
              obtain ⟨t, ht, rfl⟩ := List.mem_map.mp hn
              exact (q.2.2.2.2 t ht).2
            rw [eb] at this
            cases this
          | true =>
            refine iteF ?_
            have bl := below_all.mp eb
            have ep : parse z = some (valN (hd.take (hd.length - 1)), ts.map valN) := parse_mk hw c1 y1 (by omega) (by omega) fun t ht => ⟨hg t ht, bl _ (List.mem_map.mpr ⟨t, ht, rfl⟩)⟩
            refine ⟨_, rfl, _, rfl, (by show (2 : Nat) ≤ sizeLine; decide), fun tp ntp => ?_⟩
            exact g1 _ _ ep tp l2 _ n2H (by rw [upd_ne (ne_of_none h2 ntp)]; exact h2) upd_same (s2.next ntp)
      · exact g2 (parse_no hw fun q => by rw [y1] at q; cases q.2.1) _ s0
    · rw [decide_eq_false c1]
      exact iteT ⟨by decide, g2 (parse_no hw fun q => c1 q.1) _ s0⟩
/-! ### _law_in -/
def spInL : Sp := fun vs H Q _ => ∃ z : Str, vs = [.str z] ∧ z.length ≤ 10000 ∧ (∀ p ns, parse z = some (p, ns) → ∀ (tp l : Addr) (H' : Hp), H l = none → H tp = none → H' l = some (.lst (vI ns)) → H' tp = some (.tup [.int (p : Int), .ref l]) → Same H H' → Q (.ref tp) H') ∧
  (parse z = none → ∀ H', Same H H' → Q .non H')
theorem scInL : FnScope ["_law_text", "_law_words", "_law_places", "_law_wishes"] ["_law_text"] (defScope sInL) := ⟨rfl, rfl, rfl, by decide +kernel, rfl, by decide +kernel, by decide +kernel⟩
def vN (ts : List (List Nat)) : List V := ts.map numV'
theorem vN_len (ts : List (List Nat)) : (vN ts).length = ts.length := by unfold vN; rw [List.length_map]
theorem vN_at {ts : List (List Nat)} {i : Nat} {x : V} (h : (vN ts)[i]? = some x) : ∃ t, ts[i]? = some t ∧ x = numV' t := by
  unfold vN at h
  rw [List.getElem?_map] at h
  cases e : ts[i]? with
  | none => rw [e] at h; cases h
  | some t => rw [e] at h; cases h; exact ⟨t, rfl, rfl⟩
theorem vN_take {ts : List (List Nat)} {i : Nat} {t : List Nat} (h : ts[i]? = some t) : vN (ts.take (i + 1)) = vN (ts.take i) ++ [numV' t] := by
  unfold vN
  rw [takeX h, List.map_append]
  rfl
theorem vN_all {ts : List (List Nat)} (h : ∀ t ∈ ts, isN t = true) : vN ts = vI (ts.map valN) := by
  rw [vI_eq, List.map_map]
  exact List.map_congr_left fun t ht => numV_yes (h t ht)
/-- no number below v -/
def noB (v : Nat) (t : List Nat) : Bool := !(isN t && decide (valN t < v))
def noBs (v : Nat) (ts : List (List Nat)) : List Bool := ts.map (noB v)
theorem noBs_take {v : Nat} {ts : List (List Nat)} {i : Nat} {t : List Nat} (h : ts[i]? = some t) : (noBs v (ts.take (i + 1))).map V.bl = (noBs v (ts.take i)).map V.bl ++ [V.bl (noB v t)] := by
  unfold noBs
  rw [takeX h, List.map_append, List.map_append]
  rfl
theorem noBs_any {v : Nat} {ts : List (List Nat)} : (noBs v ts).any id = false ↔ ∀ t ∈ ts, isN t = true ∧ valN t < v := by
  unfold noBs
  rw [List.any_map, List.any_eq_false]
  refine ⟨fun h t ht => ?_, fun h t ht => ?_⟩
  · have := h t ht
    show isN t = true ∧ valN t < v
    have e : noB v t = false := by simpa using this
    unfold noB at e
    have e : (isN t && decide (valN t < v)) = true := by simpa using e
    rw [Bool.and_eq_true, decide_eq_true_iff] at e
    exact e
  · obtain ⟨a, b⟩ := h t ht
    show ¬ (noB v t = true)
    unfold noB
    rw [a, decide_eq_true b]
    simp
set_option maxHeartbeats 16000000 in
theorem d_inl (S : Src K mg "_law_in" sInL ["_law_text"]) (B : Bt K mg) (D1 : Def P w K mg base 1 "_law_number" ["_law_word"] spNumL) : Def P w K mg base 2 "_law_in" ["_law_text"] spInL := by
  refine S.ok scInL (fun vs H Q E ⟨z, e, _⟩ => by rw [e]; rfl) (fun f cdv A outer s H vs Q E hr h => ?_)
  obtain ⟨z, rfl, hlen, g1, g2⟩ := h
  refine ⟨_, pss_cons (ps_set (i := 1) scInL.nd rfl (Or.inl rfl) (pe_bm PySem.F.plainAttrs_str PySem.F.slot_str_split PySem.F.type_str_split mt_split (pv 0) (pa_cons pe_str pa_nil)))
    (pss_cons (ps_set (i := 2) scInL.nd rfl (Or.inr rfl) (pe_callD D1 hr (by rfl) (pa_cons (pe_slice sl_str (pe_ix ix_list (pv 1) pe_int (fun _ _ => rfl)) po_none (po_some (pe_un un_neg pe_int))) pa_nil)))
    (pss_cons (ps_if (pw_or (pt_cmpR op_ne (pe_slice sl_str (pe_ix ix_list (pv 1) pe_int (fun _ _ => rfl)) (po_some (pe_un un_neg pe_int)) po_none) pe_str (nomark _)) (pw_or (pt_cmp (pc_isN (pv 2))) (pw_or1 (pt_not (pt_chain op_le op_le pe_int (pv 2) pe_int))))).pt (pss_one (ps_ret pe_non)) pss_nil)
    (pss_cons (ps_setC (i := 3) scInL.nd rfl (Or.inl rfl) (sc := defScope sInL) ["_law_text", "_law_words", "_law_places", "_law_wishes"] ["_law_word"] [none] ⟨rfl, by decide +kernel, by decide +kernel, by decide +kernel, by decide +kernel, rfl, by decide +kernel⟩ rfl rfl rfl
      (pi_list (pe_slice sl_list (pv 1) (po_some pe_int) po_none)) (fun C s H fp nd => ⟨pg_name (i := 0) nd rfl (Or.inl rfl), pts_nil, pe_callD D1 hr (by rfl) (pa_cons (pv 0) pa_nil)⟩))
    (pss_cons (ps_if (pt_val (pe_callB (call_any rfl) (by rfl) B.any b_any (pa_cons (pe_comp (sc := defScope sInL) ["_law_text", "_law_words", "_law_places", "_law_wishes"] ["_law_wish", "_law_places"] [none, some 2] ⟨rfl, by decide +kernel, by decide +kernel, by decide +kernel, by decide +kernel, rfl, by decide +kernel⟩ rfl rfl rfl
      (pi_list (pv 3)) (fun C s H fp nd => ⟨pg_name (i := 0) nd rfl (Or.inl rfl), pts_nil, pe_or (pe_cmp (pc_isN (pv 0))) (pe_one (pe_cmpR op_ge (pv 0) (pv 1) (nomark _)))⟩)) pa_nil))) (pss_one (ps_ret pe_non)) pss_nil)
    (pss_one (ps_ret (pe_tup (pa_cons (pv 2) (pa_cons (pv 3) pa_nil))))))))), ?_⟩
  refine ⟨_, rfl, rfl, z, " ", rfl, rfl, rfl, ?_, fun l0 n0 => ?_⟩
  · have : sizeLine = 16777216 := rfl
    omega
  rw [s_sp, wds_str]
  have s0 : Same H (upd H l0 (.lst (vW (wds z)))) := Same.new n0
  have h0 : (upd H l0 (.lst (vW (wds z)))) l0 = some (.lst (vW (wds z))) := upd_same
  show gName 1 (V.ref l0) _ (upd H l0 (.lst (vW (wds z)))) _
  refine g_name ?_
  generalize upd H l0 (.lst (vW (wds z))) = H1 at s0 h0
  have wl := wds_len z
  have wsh := fun t (ht : t ∈ wds z) => wds_short ht
  obtain ⟨hd, ts, hw⟩ : ∃ hd ts, wds z = hd :: ts := by
    cases e : wds z with
    | nil => exact absurd e (wds_ne z)
    | cons a r => exact ⟨a, r, rfl⟩
  rw [hw] at h0 wl wsh
  have hdl := wsh hd List.mem_cons_self
  have tl : ts.length ≤ 10001 := by
    rw [List.length_cons] at wl
    omega
  refine ⟨_, rfl, l0, _, 0, .str (tx hd), rfl, rfl, SqL.of h0, atI_nat (j := 0) rfl, ?_⟩
  refine ⟨_, rfl, _, rfl, tx hd, rfl, by rw [tx_len]; exact big20 (by omega), ?_⟩
  rw [show (-(1 : Int)) = -1 from rfl, slice_init]
  refine ⟨hd.take (hd.length - 1), rfl, by rw [List.length_take]; omega, fun H2 s2 => ?_⟩
  have s02 := s0.trans s2
  have h02 := s2 _ _ h0
  refine ⟨_, rfl, l0, _, 0, .str (tx hd), rfl, rfl, SqL.of h02, atI_nat (j := 0) rfl, ?_⟩
  refine ⟨_, rfl, _, rfl, tx hd, rfl, by rw [tx_len]; exact big20 (by omega), ?_⟩
  rw [show (-(1 : Int)) = -1 from rfl, slice_last]
  refine ⟨rfl, _, rfl, ?_⟩
  rw [s_col]
  refine (Classical.em (hd.drop (hd.length - 1) = [58])).symm.elim (fun c1 => ?_) (fun c1 => ?_)
  · rw [decide_eq_false fun q => c1 (tx_eq.mp q)]
    exact iteT (g2 (parse_no hw fun q => c1 q.1) _ s02)
  rw [decide_eq_true (tx_eq.mpr c1)]
  refine iteF ?_
  cases y1 : isN (hd.take (hd.length - 1)) with
  | false =>
    rw [numV_no y1]
    refine ⟨_, rfl, _, rfl, iteTd rfl ?_⟩
    exact g2 (parse_no hw fun q => by rw [y1] at q; cases q.2.1) _ s02
  | true =>
    rw [numV_yes y1]
    have v9 := valN_le y1
    refine ⟨_, rfl, _, rfl, iteFd (fun q => nomatch q) ?_⟩
    refine ⟨_, rfl, _, _, rfl, rfl, _, rfl, ?_⟩
    refine (Classical.em (1 ≤ valN (hd.take (hd.length - 1)))).symm.elim (fun c2 => ?_) (fun c2 => ?_)
    · rw [decide_eq_false (show ¬ (1 : Int) ≤ ((valN (hd.take (hd.length - 1)) : Nat) : Int) by omega)]
      refine iteF ?_
      exact ⟨false, rfl, iteT (g2 (parse_no hw fun q => c2 q.2.2.1) _ s02)⟩
    rw [decide_eq_true (show (1 : Int) ≤ ((valN (hd.take (hd.length - 1)) : Nat) : Int) by omega)]
    refine iteT ?_
    refine ⟨_, _, rfl, rfl, _, rfl, ?_⟩
    refine (Classical.em (valN (hd.take (hd.length - 1)) ≤ 1000000)).symm.elim (fun c3 => ?_) (fun c3 => ?_)
    · rw [decide_eq_false (show ¬ ((valN (hd.take (hd.length - 1)) : Nat) : Int) ≤ 1000000 by omega)]
      exact iteT (g2 (parse_no hw fun q => c3 q.2.2.2.1) _ s02)
    rw [decide_eq_true (show ((valN (hd.take (hd.length - 1)) : Nat) : Int) ≤ 1000000 by omega)]
    refine iteF ?_
    -- the wishes
    refine ⟨_, rfl, 1, rfl, l0, _, rfl, SqL.of h02, fun l1 n1 => ?_⟩
    have ec : cutV (vW (hd :: ts)) (some 1) none = vW ts := by
      have := cut_lo (xs := vW (hd :: ts)) (m := 1) (by rw [vW_len]; exact Nat.le_add_left _ _)
      rw [show ((1 : Nat) : Int) = 1 from rfl] at this
      rw [this]
      rfl
    rw [ec]
    have s3 := s02.next (o := .lst (vW ts)) n1
    have h1 : (upd H2 l1 (.lst (vW ts))) l1 = some (.lst (vW ts)) := upd_same
    generalize upd H2 l1 (.lst (vW ts)) = H3 at s3 h1
    refine ⟨l1, rfl, ⟨_, SqL.of h1⟩, ?_⟩
    refine comp_list (xs := vW ts) (fun i => vN (ts.take i)) (fun i σ H' => Same H3 H' ∧ σ.length = 1) (by rw [vW_len]; exact big20 (by omega)) (fun i _ => by rw [vN_len, List.length_take]; omega) rfl ⟨Same.refl _, rfl⟩ (fun i σ H' e => SqL.of (e.1 _ _ h1)) ?_ ?_
    · rintro i y σ H' hy hi ⟨sm, hσ⟩
      obtain ⟨t, ht, rfl⟩ := vW_at hy
      have hts := wsh t (List.mem_cons_of_mem _ (List.mem_of_getElem? ht))
      match σ, hσ with
      | [v], _ =>
        refine g_name ?_
        refine t_true ?_
        refine iteT ?_
        refine ⟨_, rfl, t, rfl, by omega, fun H4 s4 => ?_⟩
        exact cnx hi (vN_take ht).symm ⟨sm.trans s4, rfl⟩
    rintro σ H' l2 ⟨sm, _⟩ n2
    rw [vW_len, List.take_length]
    have s4 := (s3.trans sm).next (o := .lst (vN ts)) n2
    have h2 : (upd H' l2 (.lst (vN ts))) l2 = some (.lst (vN ts)) := upd_same
    have n2H : H l2 = none := (s3.trans sm).free n2
    generalize upd H' l2 (.lst (vN ts)) = H4 at s4 h2
    refine ⟨_, rfl, l2, rfl, ⟨_, SqL.of h2⟩, ?_⟩
    refine comp_list (xs := vN ts) (fun i => (noBs (valN (hd.take (hd.length - 1))) (ts.take i)).map V.bl) (fun i σ H' => H' = H4 ∧ ∃ v, σ = [v, some (.int ((valN (hd.take (hd.length - 1)) : Nat) : Int))]) (by rw [vN_len]; exact big20 (by omega)) (fun i _ => by unfold noBs; rw [List.length_map, List.length_map, List.length_take]; omega) rfl ⟨rfl, none, rfl⟩ (fun i σ H' e => by rw [e.1]; exact SqL.of h2) ?_ ?_
    · rintro i y σ H' hy hi ⟨rfl, v, rfl⟩
      obtain ⟨t, ht, rfl⟩ := vN_at hy
      refine g_name ?_
      refine t_true ?_
      refine iteT ?_
      cases yt : isN t with
      | false =>
        rw [numV_no yt]
        refine ⟨_, rfl, _, rfl, iteTd rfl ?_⟩
        refine cnx hi ?_ ⟨rfl, _, rfl⟩
        rw [noBs_take ht]
        unfold noB
        rw [yt]
        rfl
      | true =>
        rw [numV_yes yt]
        refine ⟨_, rfl, _, rfl, iteFd (fun q => nomatch q) ?_⟩
        refine ⟨_, rfl, _, rfl, _, _, rfl, rfl, ?_⟩
        refine cnx hi ?_ ⟨rfl, _, rfl⟩
        rw [noBs_take ht]
        unfold noB
        rw [yt, Bool.true_and]
        congr 2
        show V.bl (decide (((valN (hd.take (hd.length - 1)) : Nat) : Int) ≤ ((valN t : Nat) : Int))) = _
        congr 1
        by_cases q : valN t < valN (hd.take (hd.length - 1))
        · rw [decide_eq_true q, decide_eq_false (by omega)]
          rfl
        · rw [decide_eq_false q, decide_eq_true (by omega)]
          rfl
    rintro σ H' l3 ⟨rfl, v, rfl⟩ n3
    rw [vN_len, List.take_length]
    have s5 := s4.next (o := .lst ((noBs (valN (hd.take (hd.length - 1))) ts).map V.bl)) n3
    have h3 : (upd H' l3 (.lst ((noBs (valN (hd.take (hd.length - 1))) ts).map V.bl))) l2 = some (.lst (vN ts)) := by rw [upd_ne (ne_of_none h2 n3)]; exact h2
    refine ⟨l3, noBs (valN (hd.take (hd.length - 1))) ts, rfl, SqL.of upd_same, _, rfl, ?_⟩
    generalize upd H' l3 (.lst ((noBs (valN (hd.take (hd.length - 1))) ts).map V.bl)) = H5 at s5 h3
    cases ea : (noBs (valN (hd.take (hd.length - 1))) ts).any id with
    | true =>
      refine iteT (g2 (parse_no hw fun q => ?_) _ s5)
      have := noBs_any.mpr q.2.2.2.2
      rw [ea] at this
      cases this
    | false =>
      refine iteF ?_
      have ga := noBs_any.mp ea
      have ep := parse_mk hw c1 y1 c2 c3 ga
      refine ⟨_, rfl, _, rfl, (by show (2 : Nat) ≤ sizeLine; decide), fun tp ntp => ?_⟩
      refine g1 _ _ ep tp l2 _ n2H (s5.free ntp) ?_ upd_same (s5.next ntp)
      rw [upd_ne (ne_of_none h3 ntp), h3, vN_all fun t ht => (ga t ht).1]
/-! ### _law_asked -/
def spAskT (K : PySem.W.Frag) : Sp := fun vs H Q _ => ∃ v, vs = [v] ∧ Any K H v ∧ (∀ z : Str, v = .str z → z.length ≤ 10000 ∧
    (∀ p ns, parse z = some (p, ns) → ∀ (q tp l : Addr) (H' : Hp), H l = none → H' l = some (.lst (vI ns)) → H' tp = some (.tup [.int (p : Int), .ref l]) → H' q = some (.tup [.str "made", .ref tp]) → Same H H' → Q (.ref q) H') ∧
    (parse z = none → ∀ (q : Addr) (H' : Hp), H' q = some (.tup [.str "refused", .non]) → Same H H' → Q (.ref q) H')) ∧ ((∀ z, v ≠ .str z) → ∀ (q : Addr) (H' : Hp), H' q = some (.tup [.str "refused", .non]) → Same H H' → Q (.ref q) H')
theorem scAskT : FnScope ["_law_text", "error", "_law_others"] ["_law_text"] (defScope sAskedL) := ⟨rfl, rfl, rfl, by decide +kernel, rfl, by decide +kernel, by decide +kernel⟩
set_option maxHeartbeats 16000000 in
theorem d_askt {CS CW CM CT CP CD CX : Addr} (S : Src K mg "_law_asked" sAskedL ["_law_text"]) (B : Bt K mg) (N : Xs K mg CS CW CM CT CP CD CX) (Z : Xk K CX CS CW CM CT CP CD CX false false false false false true)
    (D1 : DefX P w K mg base 3 "read" ["text"] (spRead K CX)) : Def P w K mg base 4 "_law_asked" ["_law_text"] (spAskT K) := by
  refine S.ok scAskT (fun vs H Q E ⟨v, e, _⟩ => by rw [e]; rfl) (fun f cdv A outer s H vs Q E hr h => ?_)
  obtain ⟨v, rfl, hv, k1, k2⟩ := h
  have none_case : ∀ (ok : (∀ z, v = .str z → parse z = none)) (q : Addr) (H' : Hp), H' q = some (.tup [.str "refused", .non]) → Same H H' → Q (.ref q) H' := fun ok q H' hq sm => by
    by_cases c : ∃ z, v = .str z
    · obtain ⟨z, rfl⟩ := c
      exact (k1 z rfl).2.2 (ok z rfl) q H' hq sm
    · exact k2 (fun z e => c ⟨z, e⟩) q H' hq sm
  refine ⟨_, pss_cons (ps_try (fun c _ H' => c = .ref CX ∧ Same H H' ∧ ∀ z, v = .str z → parse z = none) rfl rfl rfl scAskT.nd (i := 1) rfl (by rfl) N.ms (fun pn xe hx => pss_one (ps_ret (pe_tup (pa_cons pe_str (pa_cons (pe_callX D1 hr (by rfl) hx (pa_cons (pv 0) pa_nil)) pa_nil)))))
      (fun x => gSs (qCons (qSet (i := 2) scAskT.nd rfl (Or.inl rfl) (qL (qaF ⟨pe_callB call_isiX (by rfl) B.isi b_isi (pa_cons (pv 1) (pa_cons (pe_glob (v := .ref CW) (by rfl) N.mw rfl) pa_nil))⟩
          (qaF ⟨pe_callB call_isiX (by rfl) B.isi b_isi (pa_cons (pv 1) (pa_cons (pe_glob (v := .ref CM) (by rfl) N.mm rfl) pa_nil))⟩ (qaF ⟨pe_callB call_isiX (by rfl) B.isi b_isi (pa_cons (pv 1) (pa_cons (pe_glob (v := .ref CT) (by rfl) N.mt rfl) pa_nil))⟩ q0)))) rfl (.inl rfl))
        (qCons (qSet (i := 2) scAskT.nd rfl (Or.inl rfl) (qOp op_cat ⟨pv 2⟩ (qL (qaF ⟨pe_callB call_isiX (by rfl) B.isi b_isi (pa_cons (pv 1) (pa_cons (pe_glob (v := .ref CP) (by rfl) N.mp rfl) pa_nil))⟩
          (qaF ⟨pe_callB call_isiX (by rfl) B.isi b_isi (pa_cons (pv 1) (pa_cons (pe_glob (v := .ref CD) (by rfl) N.md rfl) pa_nil))⟩ q0)))) rfl (.inl rfl))
        (qOne (qIf (pw_or (pt_val (pe_callB (call_anyX (x := x) rfl) (by rfl) B.any b_any (pa_cons (pv 2) pa_nil))) (pw_or1 (pt_not (pt_val (pe_callB call_isiX (by rfl) B.isi b_isi (pa_cons (pv 1) (pa_cons (pe_glob (v := .ref CX) (by rfl) N.mx rfl) pa_nil))))))).pt
          (qOne (qRet (qT (qaC qS (qaC qO q0))))) qNil))))))
    (pss_one (ps_ret (pe_tup (pa_cons pe_str (pa_cons pe_non pa_nil))))), ?_⟩
  refine ⟨⟨_, rfl, v, rfl, hv, fun z e => ⟨(k1 z e).1, fun p ns ep tp l H' nl hl ht sm => ?_, fun ep H' sm => ⟨rfl, sm, fun z' e' => ?_⟩⟩, fun no => ⟨rfl, Same.refl _, fun z' e' => absurd e' (no z')⟩⟩, ?_⟩
  · refine ⟨(by show (2 : Nat) ≤ sizeLine; decide), fun q nq => ?_⟩
    exact (k1 z e).2.1 p ns ep q tp l _ nl (by rw [upd_ne (ne_of_none hl nq)]; exact hl) (by rw [upd_ne (ne_of_none ht nq)]; exact ht) upd_same (sm.next nq)
  · rw [e] at e'
    cases e'
    exact ep
  rintro c H' ⟨rfl, sm, ok⟩
  refine ⟨CX, rfl, Z.es, fun x nx => ?_⟩
  have s1 : Same H (upd H' x (xO x CX)) := sm.next nx
  have hx0 : (upd H' x (xO x CX)) x = some (xO x CX) := upd_same
  generalize upd H' x (xO x CX) = H1 at s1 hx0
  refine ⟨_, rfl, x, CX, _, _, _, rfl, hx0, Z.xc, .inr ⟨_, rfl, rfl⟩, Z.kw, ?_⟩
  refine ⟨_, rfl, x, CX, _, _, _, rfl, hx0, Z.xc, .inr ⟨_, rfl, rfl⟩, Z.km, ?_⟩
  refine ⟨_, rfl, x, CX, _, _, _, rfl, hx0, Z.xc, .inr ⟨_, rfl, rfl⟩, Z.kt, ?_⟩
  refine ⟨by decide, fun l nl => ?_⟩
  have hx1 : (upd H1 l (.lst [.bl false, .bl false, .bl false])) x = some (xO x CX) := by rw [upd_ne (ne_of_none hx0 nl)]; exact hx0
  have hl1 : (upd H1 l (.lst [.bl false, .bl false, .bl false])) l = some (.lst [.bl false, .bl false, .bl false]) := upd_same
  have s2 := s1.next (o := .lst [.bl false, .bl false, .bl false]) nl
  refine g_name ?_
  generalize upd H1 l (.lst [.bl false, .bl false, .bl false]) = H2 at s2 hx1 hl1
  refine ⟨_, rfl, ?_⟩
  refine ⟨_, rfl, x, CX, _, _, _, rfl, hx1, Z.xc, .inr ⟨_, rfl, rfl⟩, Z.kp, ?_⟩
  refine ⟨_, rfl, x, CX, _, _, _, rfl, hx1, Z.xc, .inr ⟨_, rfl, rfl⟩, Z.kd, ?_⟩
  refine ⟨by decide, fun l2 nl2 => ?_⟩
  have hx2 : (upd H2 l2 (.lst [.bl false, .bl false])) x = some (xO x CX) := by rw [upd_ne (ne_of_none hx1 nl2)]; exact hx1
  have hl2 : (upd H2 l2 (.lst [.bl false, .bl false])) l = some (.lst [.bl false, .bl false, .bl false]) := by rw [upd_ne (ne_of_none hl1 nl2)]; exact hl1
  have hm2 : (upd H2 l2 (.lst [.bl false, .bl false])) l2 = some (.lst [.bl false, .bl false]) := upd_same
  have s3 := s2.next (o := .lst [.bl false, .bl false]) nl2
  generalize upd H2 l2 (.lst [.bl false, .bl false]) = H3 at s3 hx2 hl2 hm2
  refine ⟨l, l2, [.bl false, .bl false, .bl false], [.bl false, .bl false], rfl, rfl, hl2, hm2, by decide, fun l3 nl3 => ?_⟩
  have hx3 : (upd H3 l3 (.lst ([.bl false, .bl false, .bl false] ++ [.bl false, .bl false]))) x = some (xO x CX) := by rw [upd_ne (ne_of_none hx2 nl3)]; exact hx2
  have s4 := s3.next (o := .lst ([.bl false, .bl false, .bl false] ++ [.bl false, .bl false])) nl3
  refine g_name ?_
  refine ⟨_, rfl, l3, CX, [false, false, false, false, false], rfl, hx3, SqL.of upd_same, _, rfl, iteF ?_⟩
  refine ⟨_, rfl, x, CX, _, _, _, rfl, hx3, Z.xc, .inr ⟨_, rfl, rfl⟩, Z.kx, _, rfl, iteF ?_⟩
  refine ⟨by decide, fun q nq => ?_⟩
  exact none_case ok q _ upd_same (s4.next nq)
/-! ### _law_right -/
structure Bt4 (mg : Str → Option Value) : Prop where
  tuple : mg "tuple" = none
theorem b_tuple : bootBuiltins "tuple" = some (.type "tuple") := by decide +kernel
def spRightT : Sp := fun vs H Q _ => ∃ z : Str, vs = [.str z] ∧ z.length ≤ 10000 ∧ ∀ H', Same H H' → Q (.bl true) H'
theorem scRightT : FnScope ["_law_text", "_law_due", "_law_came", "_law_found"] ["_law_text"] (defScope sRightL) := ⟨rfl, rfl, rfl, by decide +kernel, rfl, by decide +kernel, by decide +kernel⟩
theorem nq {α : Type} {x y : α} {d : Decidable (x = y)} (h : x = y) : V.bl (!(@decide (x = y) d)) = V.bl false := by rw [decide_eq_true h]; rfl
theorem yq {α : Type} {x y : α} {d : Decidable (x = y)} (h : x = y) : V.bl (@decide (x = y) d) = V.bl true := by rw [decide_eq_true h]
theorem ns_len {z : Str} {p : Nat} {ns : List Nat} (e : parse z = some (p, ns)) (h : z.length ≤ 10000) : ns.length ≤ 10001 ∧ (∀ n ∈ ns, n < p) ∧ 1 ≤ p ∧ p ≤ 1000000 := by
  obtain ⟨hd, ts, hw, d1, d2, d3, d4, d5, d6, d7⟩ := parse_some e
  have l := wds_len z
  rw [hw, List.length_cons] at l
  refine ⟨by rw [d6, List.length_map]; omega, fun n hn => ?_, d4, d5⟩
  rw [d6] at hn
  obtain ⟨t, ht, rfl⟩ := List.mem_map.mp hn
  exact (d7 t ht).2
set_option maxHeartbeats 16000000 in
theorem d_rightt {CX : Addr} (S : Src K mg "_law_right" sRightL ["_law_text"]) (B : Bt K mg) (B4 : Bt4 mg) (D1 : Def P w K mg base 2 "_law_in" ["_law_text"] spInL) (D2 : Def P w K mg base 4 "_law_asked" ["_law_text"] (spAskT K)) (D3 : Def P w K mg base 4 "written" ["places", "wishes"] spWritten) (D4 : DefX P w K mg base 3 "read" ["text"] (spRead K CX)) :
    Def P w K mg base 5 "_law_right" ["_law_text"] spRightT := by
  refine S.ok scRightT (fun vs H Q E ⟨z, e, _⟩ => by rw [e]; rfl) (fun f cdv A outer s H vs Q E hr h => ?_)
  obtain ⟨z, rfl, hlen, k⟩ := h
  have hr2 := hr.mono (show 2 ≤ 4 by decide)
  have hr3 := hr.mono (show 3 ≤ 4 by decide)
  have hu1 : (A.deeper (PyProof.Rows.envOfC "_law_right" (defScope sRightL) s.heap.objs.size f cdv)).units + 1 < cLine := by have := hr.un; omega
  refine ⟨_, pss_cons (ps_set (i := 1) scRightT.nd rfl (Or.inl rfl) (pe_callD D1 hr2 (by rfl) (pa_cons (pv 0) pa_nil)))
    (pss_cons (ps_asg (pe_callD D2 hr (by rfl) (pa_cons (pv 0) pa_nil)) (pg_tup rfl (pgs_cons (pg_name (i := 2) scRightT.nd rfl (Or.inl rfl)) (pgs_cons (pg_name (i := 3) scRightT.nd rfl (Or.inl rfl)) pgs_nil))))
    (pss_cons (ps_if (pt_cmp (pc_isN (pv 1))) (pss_one (ps_ret (pe_cmpR op_eq (pv 2) pe_str (nomark _)))) pss_nil)
    (pss_cons (ps_if (pw_or (pt_cmpR op_ne (pv 2) pe_str (nomark _)) (pw_or (pt_not (pt_val (pe_callB call_isi (by rfl) B.isi b_isi (pa_cons (pv 3) (pa_cons (pe_bltn (v := .ty "tuple") (by rfl) B4.tuple b_tuple rfl) pa_nil)))))
        (pw_or (pt_cmpR (op_neP hu1) (pv 3) (pv 1) (nomark _)) (pw_or1 (pt_cmpR op_ne (pe_callD D3 hr (by rfl) (pa_cons (pe_ix ix_tup (pv 1) pe_int (fun _ _ => rfl)) (pa_cons (pe_ix ix_tup (pv 1) pe_int (fun _ _ => rfl)) pa_nil))) (pv 0) (nomark _)))))).pt (pss_one (ps_ret pe_bl)) pss_nil)
    (pss_cons (ps_expr (pe_bm PySem.F.plainAttrs_list PySem.F.slot_list_append PySem.F.type_list_append mt_append (pe_ix ix_tup (pv 3) pe_int (fun _ _ => rfl)) (pa_cons pe_int pa_nil)))
    (pss_one (ps_ret (pe_cmpR (op_eqP hu1) (pe_callX D4 hr3 (by rfl) pass1E (pa_cons (pv 0) pa_nil)) (pv 1) (nomark _)))))))), ?_⟩
  refine ⟨_, rfl, z, rfl, hlen, fun p ns ep tp l H1 nl ntp hl ht s1 => ?_, fun ep H1 s1 => ?_⟩
  · obtain ⟨nlen, nlt, p1, p2⟩ := ns_len ep hlen
    refine ⟨_, rfl, .str z, rfl, .str _, fun z' e' => ?_, fun no => absurd rfl (no z)⟩
    cases e'
    refine ⟨hlen, fun p' ns' ep' q tp2 l2 H2 nl2 hl2 ht2 hq s2 => ?_, fun z => by rw [ep] at z; cases z⟩
    rw [ep] at ep'
    cases ep'
    refine ⟨q, _, rfl, SqT.of hq, rfl, _, _, rfl, _, _, rfl, rfl, ?_⟩
    have hl1 := s2 _ _ hl
    have ht1 := s2 _ _ ht
    refine ⟨_, rfl, _, rfl, iteFd (fun q => nomatch q) ?_⟩
    refine ⟨_, rfl, rfl, false, nq rfl, iteF ?_⟩
    refine ⟨_, rfl, _, _, _, _, _, rfl, .tup ht2, .inl ⟨_, rfl, rfl⟩, kit_same _ _, _, rfl, iteF ?_⟩
    refine ⟨_, rfl, _, rfl, tp2, tp, .int (p : Int), .ref l2, .int (p : Int), .ref l, true, true, rfl, rfl, SqT.of ht2, SqT.of ht1, .inl ⟨rfl, rfl, ?_⟩, .inr ⟨l2, l, toI ns, toI ns, rfl, rfl, SqL.of hl2, SqL.of hl1, (decide_eq_true rfl).symm⟩, _, rfl, iteF ?_⟩
    · show true = ((p : Int) == (p : Int))
      simp
    refine ⟨_, rfl, tp, _, 0, .int (p : Int), rfl, rfl, SqT.of ht1, atI_nat (j := 0) rfl, ?_⟩
    refine ⟨_, rfl, tp, _, 1, .ref l, rfl, rfl, SqT.of ht1, atI_nat (j := 1) rfl, ?_⟩
    refine ⟨p, l, ns, rfl, hl1, nlt, p1, p2, by omega, fun H3 s3 => ?_⟩
    refine ⟨_, rfl, rfl, false, nq (by rw [parse_back ep]), iteF ?_⟩
    -- the list that came grows
    have hl3 := s3 _ _ hl2
    have ht3 := s3 _ _ ht2
    have s13 := s1.trans (s2.trans s3)
    have nl2H : H l2 = none := s1.free nl2
    refine ⟨_, rfl, tp2, _, 1, .ref l2, rfl, rfl, SqT.of ht3, atI_nat (j := 1) rfl, .inl ⟨rfl, _, SqL.of hl3⟩, l2, _, _, rfl, rfl, hl3, ?_, ?_⟩
    · rw [vI_len]
      exact Nat.lt_of_le_of_lt (show ns.length ≤ 20000 by omega) (by decide)
    have s4 : Same H (upd H3 l2 (.lst (vI ns ++ [.int 0]))) := s13.own nl2H
    have nel : l ≠ l2 := fun e => by
      rw [e] at hl
      rw [nl2] at hl
      cases hl
    have hl4 : (upd H3 l2 (.lst (vI ns ++ [.int 0]))) l = some (.lst (vI ns)) := by rw [upd_ne nel]; exact s3 _ _ hl1
    have ht4 : (upd H3 l2 (.lst (vI ns ++ [.int 0]))) tp = some (.tup [.int (p : Int), .ref l]) := by
      rw [upd_ne (fun e => ?_)]
      · exact s3 _ _ ht1
      · have z := s3 _ _ ht1
        rw [e, hl3] at z
        cases z
    generalize upd H3 l2 (.lst (vI ns ++ [.int 0])) = H4 at s4 hl4 ht4
    refine ⟨_, rfl, .str z, rfl, .str _, fun z' e' => ?_, fun no => absurd rfl (no z)⟩
    cases e'
    refine ⟨hlen, fun p' ns' ep' tp3 l3 H5 nl3 hl5 ht5 s5 => ?_, fun z => by rw [ep] at z; cases z⟩
    rw [ep] at ep'
    cases ep'
    refine ⟨_, rfl, tp3, tp, .int (p : Int), .ref l3, .int (p : Int), .ref l, true, true, rfl, rfl, SqT.of ht5, SqT.of (s5 _ _ ht4), .inl ⟨rfl, rfl, ?_⟩, .inr ⟨l3, l, toI ns, toI ns, rfl, rfl, SqL.of hl5, SqL.of (s5 _ _ hl4), (decide_eq_true rfl).symm⟩, k _ (s4.trans s5)⟩
    show true = ((p : Int) == (p : Int))
    simp
  · refine ⟨_, rfl, .str z, rfl, .str _, fun z' e' => ?_, fun no => absurd rfl (no z)⟩
    cases e'
    refine ⟨hlen, (fun p' ns' ep' => by rw [ep] at ep'; cases ep'), fun _ q H2 hq s2 => ?_⟩
    refine ⟨q, _, rfl, SqT.of hq, rfl, _, _, rfl, _, _, rfl, rfl, ?_⟩
    refine ⟨_, rfl, _, rfl, iteTd rfl ?_⟩
    refine ⟨_, rfl, rfl, ?_⟩
    have := k _ (s1.trans s2)
    rw [show V.bl (decide (V.str "refused" = V.str "refused")) = V.bl true from yq rfl]
    exact this
/-! ### law -/
theorem txt_len {p : Nat} {ns : List Nat} (hp : p ≤ 1000000) (hn : ∀ n ∈ ns, n < p) (hl : ns.length ≤ 63) : (txtOf p ns).length ≤ 800 := by
  have a := sum_num (ns := ns) fun n h => by have := hn n h; omega
  have b := numT_len (n := p) (by omega)
  have d : (numT ((p : Nat) : Int) ++ tx [58]).length = (numT ((p : Nat) : Int)).length + 1 := by rw [Str.length_append]; rfl
  have c : sp1.length = 1 := rfl
  unfold txtOf
  show (Builtin.Str.glued sp1 _).length ≤ 800
  rw [StrLaws.glued_eq_join, PyProof.Rows.len_join_cons, List.map_cons, List.sum_cons, List.length_map, c, d]
  omega
theorem int_at' {ns : List Int} {i : Nat} {x : V} (h : (ns.map V.int)[i]? = some x) : ∃ n, ns[i]? = some n ∧ x = .int n := by
  rw [List.getElem?_map] at h
  cases e : ns[i]? with
  | none => rw [e] at h; cases h
  | some n => rw [e] at h; cases h; exact ⟨n, rfl, rfl⟩
theorem str_at {ys : List Str} {i : Nat} {x : V} (h : (ys.map V.str)[i]? = some x) : ∃ y, ys[i]? = some y ∧ x = .str y := by
  rw [List.getElem?_map] at h
  cases e : ys[i]? with
  | none => rw [e] at h; cases h
  | some n => rw [e] at h; cases h; exact ⟨n, rfl, rfl⟩
theorem nqL {a b : List Int} (h : a = b) : V.bl (if true = true then !decide (a = b) else decide (a = b)) = V.bl false := by rw [if_pos rfl, decide_eq_true h]; rfl
def spLaw (K : PySem.W.Frag) : Sp := fun vs H Q _ => ∃ (a : Addr) (ns : List Int), vs = [.ref a] ∧ SqL K H a (ns.map V.int) ∧ ns.length ≤ 63 ∧ ∀ H', Q (.bl true) H'
theorem scLaw : FnScope ["_law_script", "_law_mixed", "_law_places", "_law_wishes", "_law_handed", "_law_text", "_law_at", "_law_sign", "_law_texts"] ["_law_script"] (defScope sLaw) := ⟨rfl, rfl, rfl, by decide +kernel, rfl, by decide +kernel, by decide +kernel⟩
theorem modT_take {p : Nat} {ns : List Int} {i : Nat} {c : Int} (hp : 0 < p) (h : ns[i]? = some c) : vI ((ns.take (i + 1)).map fun c => (c % (p : Int)).toNat) = vI ((ns.take i).map fun c => (c % (p : Int)).toNat) ++ [V.int (c % (p : Int))] := by
  rw [takeX h, List.map_append, List.map_cons, List.map_nil, vI_snoc, ← (emod_nat (c := c) hp).1]
set_option maxHeartbeats 32000000 in
theorem law_c {f : Addr} {cdv : Value} {A : Around} {outer : List Env} {s : Shared} {H : Hp} {E : XK} (hr : Room 5 (A.deeper (PyProof.Rows.envOfC "law" (defScope sLaw) s.heap.objs.size f cdv))) (B : Bt K mg) (D2 : Def P w K mg base 5 "_law_right" ["_law_text"] spRightT) (D3 : Def P w K mg base 4 "_law_asked" ["_law_text"] (spAskT K)) :
    ∃ t, QSs (cxOf CX0 P w K mg base ["_law_script", "_law_mixed", "_law_places", "_law_wishes", "_law_handed", "_law_text", "_law_at", "_law_sign", "_law_texts"] "law" (defScope sLaw) f cdv A outer s H E).nox ((defBody sLaw).drop 12) t ∧ ∀ (D : Ends) (H13 : Hp) (v0 v2 v3 v4 v5 v6 v7 : Option V) (m : Int) (l11 : Addr) (ys : List Str), H13 l11 = some (.lst (ys.map V.str)) → ys.length = 26 → (∀ y ∈ ys, y.length ≤ 10000) → (∀ H', D.rt (.bl true) H') →
      t D [v0, some (.int m), v2, v3, v4, v5, v6, v7, some (.ref l11)] H13 := by
  have hr4 := hr.mono (show 4 ≤ 5 by decide)
  refine ⟨_, qCons (qIf (pt_not (pt_val (pe_callB (call_all rfl) (by rfl) B.all b_all (pa_cons (pe_comp (sc := defScope sLaw) ["_law_script", "_law_mixed", "_law_places", "_law_wishes", "_law_handed", "_law_text", "_law_at", "_law_sign", "_law_texts"] ["_law_some"] [none]
      ⟨rfl, by decide +kernel, by decide +kernel, by decide +kernel, by decide +kernel, rfl, by decide +kernel⟩ rfl rfl rfl (pi_list (pv 8)) (fun C s H fp nd => ⟨pg_name (i := 0) nd rfl (Or.inl rfl), pts_nil, pe_callD D2 hr (by rfl) (pa_cons (pv 0) pa_nil)⟩)) pa_nil)))) (qOne (qRet qY)) qNil)
    (qOne (qRet ⟨pe_cmpR op_eq (pe_ix ix_tup (pe_callD D3 hr4 (by rfl) (pa_cons (gE (qIx ix_list (qL (qaC qO (qaC qI (qaL (qL (qaC qS q0)) (qaC qY q0))))) ⟨pe_op op_mod (pv 1) pe_int⟩ (fun _ _ => rfl))) pa_nil)) pe_int (fun _ _ => rfl)) pe_str (nomark _)⟩)), fun D H13 v0 v2 v3 v4 v5 v6 v7 m l11 ys t11 yl ysm k => ?_⟩
  refine ⟨_, rfl, l11, rfl, ⟨_, SqL.of t11⟩, ?_⟩
  refine comp_list (xs := ys.map V.str) (fun i => (List.replicate i true).map V.bl) (fun i σ H' => Same H13 H' ∧ σ.length = 1) (by rw [List.length_map, yl]; decide) (fun i _ => by rw [List.length_map, List.length_replicate]; exact Nat.le_refl _) rfl ⟨Same.refl _, rfl⟩ (fun i σ H' e => SqL.of (e.1 _ _ t11)) ?_ ?_
  · rintro i y σ H' hy hi ⟨sm, hσ⟩
    obtain ⟨y, hy', rfl⟩ := str_at hy
    match σ, hσ with
    | [v], _ =>
      refine g_name ?_
      refine t_true ?_
      refine iteT ?_
      refine ⟨_, rfl, y, rfl, ysm y (List.mem_of_getElem? hy'), fun H14 s14 => ?_⟩
      refine cnx hi ?_ ⟨sm.trans s14, rfl⟩
      rw [List.replicate_succ', List.map_append]
      rfl
  rintro σ H' l12 ⟨sm, _⟩ n12
  refine ⟨l12, List.replicate _ true, rfl, SqL.of upd_same, true, ?_, iteF ?_⟩
  · congr 1
    exact List.all_eq_true.mpr fun b hb => (List.mem_replicate.mp hb).2
  generalize upd H' l12 _ = H15
  -- what is no text
  refine ⟨by decide, fun l13 n13 => ?_⟩
  have t13 : (upd H15 l13 (.lst [.str "1:"])) l13 = some (.lst [.str "1:"]) := upd_same
  generalize upd H15 l13 (.lst [.str "1:"]) = H16 at t13
  refine ⟨(by show (4 : Nat) ≤ sizeLine; decide), fun l14 n14 => ?_⟩
  have t13b : (upd H16 l14 (.lst [.non, .int 5, .ref l13, .bl true])) l13 = some (.lst [.str "1:"]) := by rw [upd_ne (ne_of_none t13 n14)]; exact t13
  obtain ⟨v, ev, av, nv⟩ : ∃ v, atI [V.non, V.int 5, V.ref l13, V.bl true] (m % 4) = some v ∧ Any K (upd H16 l14 (.lst [.non, .int 5, .ref l13, .bl true])) v ∧ ∀ z, v ≠ .str z := by
    obtain ⟨i, ei, hi⟩ : ∃ i : Nat, m % 4 = (i : Int) ∧ i < 4 := ⟨(m % 4).toNat, by omega, by omega⟩
    rw [ei]
    match i, hi with
    | 0, _ => exact ⟨_, atI_nat (j := 0) rfl, .non, fun z e => nomatch e⟩
    | 1, _ => exact ⟨_, atI_nat (j := 1) rfl, .int _, fun z e => nomatch e⟩
    | 2, _ => exact ⟨_, atI_nat (j := 2) rfl, .lst t13b, fun z e => nomatch e⟩
    | 3, _ => exact ⟨_, atI_nat (j := 3) rfl, .bl _, fun z e => nomatch e⟩
  refine ⟨_, rfl, _, _, rfl, rfl, (by show (0 : Int) < 4; decide), l14, _, _, v, rfl, rfl, SqL.of upd_same, ev, ?_⟩
  refine ⟨v, rfl, av, fun z e => absurd e (nv z), fun _ q H17 hq s17 => ?_⟩
  refine ⟨q, _, 0, .str "refused", rfl, rfl, SqT.of hq, atI_nat (j := 0) rfl, rfl, ?_⟩
  have := k H17
  rw [show V.bl (decide (V.str "refused" = V.str "refused")) = V.bl true from yq rfl]
  exact this
set_option maxHeartbeats 32000000 in
theorem law_b {f : Addr} {cdv : Value} {A : Around} {outer : List Env} {s : Shared} {H : Hp} {E : XK} (hr : Room 5 (A.deeper (PyProof.Rows.envOfC "law" (defScope sLaw) s.heap.objs.size f cdv))) (B : Bt K mg) (D2 : Def P w K mg base 5 "_law_right" ["_law_text"] spRightT) (D3 : Def P w K mg base 4 "_law_asked" ["_law_text"] (spAskT K)) :
    ∃ t, QSs (cxOf CX0 P w K mg base ["_law_script", "_law_mixed", "_law_places", "_law_wishes", "_law_handed", "_law_text", "_law_at", "_law_sign", "_law_texts"] "law" (defScope sLaw) f cdv A outer s H E).nox ((defBody sLaw).drop 9) t ∧ ∀ (D : Ends) (H7 : Hp) (v0 v2 v3 v4 v5 v6 v7 : Option V) (m : Int) (l5 : Addr) (ys1 : List Str), H7 l5 = some (.lst (ys1.map V.str)) → (ys1.length = 4 ∧ ∀ y ∈ ys1, y.length ≤ 10000) → (∀ H', D.rt (.bl true) H') →
      t D [v0, some (.int m), v2, v3, v4, v5, v6, v7, some (.ref l5)] H7 := by
  obtain ⟨tc, qc, hc⟩ := law_c (P := P) (w := w) (K := K) (mg := mg) (base := base) (f := f) (cdv := cdv) (A := A) (outer := outer) (s := s) (H := H) (E := E) hr B D2 D3
  refine ⟨_, qCons (qSet (i := 8) scLaw.nd rfl (Or.inl rfl) (qOp op_cat ⟨pv 8⟩ (qL (qaC qS (qaC qS (qaC qS (qaC qS (qaC qS (qaC qS (qaC qS (qaC qS (qaC qS (qaC qS (qaC qS (qaC qS q0)))))))))))))) rfl (.inl rfl))
    (qCons (qSet (i := 8) scLaw.nd rfl (Or.inl rfl) (qOp op_cat ⟨pv 8⟩ (qL (qaC qS (qaC qS (qaC qS (qaB ⟨pe_op op_add_str (pe_op op_mulS pe_str pe_int) pe_str⟩ (qaB ⟨pe_op op_add_str pe_str (pe_op op_mulS pe_str pe_int)⟩ q0))))))) rfl (.inl rfl))
    (qCons (qSet (i := 8) scLaw.nd rfl (Or.inl rfl) (qOp op_cat ⟨pv 8⟩ (qL (qaC qS (qaC qS (qaC qS (qaC qS (qaC qS q0))))))) rfl (.inl rfl)) qc)), fun D H7 v0 v2 v3 v4 v5 v6 v7 m l5 ys1 t5 yl1 k => ?_⟩
  refine ⟨_, rfl, (by show (12 : Nat) ≤ sizeLine; decide), fun l6 n6 => ?_⟩
  obtain ⟨ys2, ey2, yl2⟩ : ∃ ys2 : List Str, [V.str "", V.str ":", V.str "0:", V.str "1:", V.str "1: 0", V.str "1: 1", V.str "1:0", V.str "1 : 0", V.str "2: 00", V.str "2: 01", V.str "2: -0", V.str "2: 1 "] = ys2.map V.str ∧ ys2.length = 12 ∧ ∀ y ∈ ys2, y.length ≤ 10000 :=
    ⟨["", ":", "0:", "1:", "1: 0", "1: 1", "1:0", "1 : 0", "2: 00", "2: 01", "2: -0", "2: 1 "], rfl, rfl, by decide +kernel⟩
  have t5b : (upd H7 l6 (.lst [V.str "", V.str ":", V.str "0:", V.str "1:", V.str "1: 0", V.str "1: 1", V.str "1:0", V.str "1 : 0", V.str "2: 00", V.str "2: 01", V.str "2: -0", V.str "2: 1 "])) l5 = some (.lst (ys1.map V.str)) := by rw [upd_ne (ne_of_none t5 n6)]; exact t5
  have t6 : (upd H7 l6 (.lst [V.str "", V.str ":", V.str "0:", V.str "1:", V.str "1: 0", V.str "1: 1", V.str "1:0", V.str "1 : 0", V.str "2: 00", V.str "2: 01", V.str "2: -0", V.str "2: 1 "])) l6 = some (.lst (ys2.map V.str)) := by rw [← ey2]; exact upd_same
  generalize upd H7 l6 (.lst [V.str "", V.str ":", V.str "0:", V.str "1:", V.str "1: 0", V.str "1: 1", V.str "1:0", V.str "1 : 0", V.str "2: 00", V.str "2: 01", V.str "2: -0", V.str "2: 1 "]) = H8 at t5b t6
  refine ⟨l5, l6, _, _, rfl, rfl, t5b, t6, ?_, fun l7 n7 => ?_⟩
  · rw [List.length_map, List.length_map, yl1.1, yl2.1]
    decide
  rw [← List.map_append]
  have t7 : (upd H8 l7 (.lst ((ys1 ++ ys2).map V.str))) l7 = some (.lst ((ys1 ++ ys2).map V.str)) := upd_same
  refine g_name ?_
  generalize upd H8 l7 (.lst ((ys1 ++ ys2).map V.str)) = H9 at t7
  -- and five
  have r9 : (repS "9" 4000).length = 4000 := by rw [repS_len]; rfl
  refine ⟨_, rfl, ?_⟩
  refine ⟨"9", 4000, rfl, rfl, by decide, by decide, _, _, rfl, rfl, ?_, ?_⟩
  · rw [r9]; decide
  refine ⟨"9", 4000, rfl, rfl, by decide, by decide, _, _, rfl, rfl, ?_, ?_⟩
  · rw [r9]; decide
  refine ⟨(by show (5 : Nat) ≤ sizeLine; decide), fun l8 n8 => ?_⟩
  obtain ⟨ys3, ey3, yl3⟩ : ∃ ys3 : List Str, [V.str "1000000: 999999", V.str "1000001: 0", V.str "1000000: 1000000", V.str (repS "9" 4000 ++ ":"), V.str ("2: " ++ repS "9" 4000)] = ys3.map V.str ∧ ys3.length = 5 ∧ ∀ y ∈ ys3, y.length ≤ 10000 := by
    refine ⟨["1000000: 999999", "1000001: 0", "1000000: 1000000", repS "9" 4000 ++ ":", "2: " ++ repS "9" 4000], rfl, rfl, fun y hy => ?_⟩
    simp only [List.mem_cons, List.not_mem_nil, or_false] at hy
    rcases hy with rfl | rfl | rfl | rfl | rfl
    · decide +kernel
    · decide +kernel
    · decide +kernel
    · rw [Str.length_append, r9]; decide
    · rw [Str.length_append, r9]; decide
  have t7b : (upd H9 l8 (.lst [V.str "1000000: 999999", V.str "1000001: 0", V.str "1000000: 1000000", V.str (repS "9" 4000 ++ ":"), V.str ("2: " ++ repS "9" 4000)])) l7 = some (.lst ((ys1 ++ ys2).map V.str)) := by rw [upd_ne (ne_of_none t7 n8)]; exact t7
  have t8 : (upd H9 l8 (.lst [V.str "1000000: 999999", V.str "1000001: 0", V.str "1000000: 1000000", V.str (repS "9" 4000 ++ ":"), V.str ("2: " ++ repS "9" 4000)])) l8 = some (.lst (ys3.map V.str)) := by rw [← ey3]; exact upd_same
  generalize upd H9 l8 (.lst [V.str "1000000: 999999", V.str "1000001: 0", V.str "1000000: 1000000", V.str (repS "9" 4000 ++ ":"), V.str ("2: " ++ repS "9" 4000)]) = H10 at t7b t8
  refine ⟨l7, l8, _, _, rfl, rfl, t7b, t8, ?_, fun l9 n9 => ?_⟩
  · rw [List.length_map, List.length_map, List.length_append, yl1.1, yl2.1, yl3.1]
    decide
  rw [← List.map_append]
  have t9 : (upd H10 l9 (.lst ((ys1 ++ ys2 ++ ys3).map V.str))) l9 = some (.lst ((ys1 ++ ys2 ++ ys3).map V.str)) := upd_same
  refine g_name ?_
  generalize upd H10 l9 (.lst ((ys1 ++ ys2 ++ ys3).map V.str)) = H11 at t9
  -- and five more
  refine ⟨_, rfl, (by show (5 : Nat) ≤ sizeLine; decide), fun l10 n10 => ?_⟩
  obtain ⟨ys4, ey4, yl4⟩ : ∃ ys4 : List Str, [V.str "02: 1", V.str "2", V.str "2:  1", V.str "1; 0", V.str "1;"] = ys4.map V.str ∧ ys4.length = 5 ∧ ∀ y ∈ ys4, y.length ≤ 10000 :=
    ⟨["02: 1", "2", "2:  1", "1; 0", "1;"], rfl, rfl, by decide +kernel⟩
  have t9b : (upd H11 l10 (.lst [V.str "02: 1", V.str "2", V.str "2:  1", V.str "1; 0", V.str "1;"])) l9 = some (.lst ((ys1 ++ ys2 ++ ys3).map V.str)) := by rw [upd_ne (ne_of_none t9 n10)]; exact t9
  have t10 : (upd H11 l10 (.lst [V.str "02: 1", V.str "2", V.str "2:  1", V.str "1; 0", V.str "1;"])) l10 = some (.lst (ys4.map V.str)) := by rw [← ey4]; exact upd_same
  generalize upd H11 l10 (.lst [V.str "02: 1", V.str "2", V.str "2:  1", V.str "1; 0", V.str "1;"]) = H12 at t9b t10
  refine ⟨l9, l10, _, _, rfl, rfl, t9b, t10, ?_, fun l11 n11 => ?_⟩
  · rw [List.length_map, List.length_map, List.length_append, List.length_append, yl1.1, yl2.1, yl3.1, yl4.1]
    decide
  rw [← List.map_append]
  obtain ⟨ys, ey⟩ : ∃ ys, ys1 ++ ys2 ++ ys3 ++ ys4 = ys := ⟨_, rfl⟩
  have yl : ys.length = 26 := by rw [← ey, List.length_append, List.length_append, List.length_append, yl1.1, yl2.1, yl3.1, yl4.1]
  have ysm : ∀ y ∈ ys, y.length ≤ 10000 := fun y hy => by
    rw [← ey] at hy
    rcases List.mem_append.mp hy with q | q
    · rcases List.mem_append.mp q with q | q
      · rcases List.mem_append.mp q with q | q
        · exact yl1.2 y q
        · exact yl2.2 y q
      · exact yl3.2 y q
    · exact yl4.2 y q
  rw [ey]
  have t11 : (upd H12 l11 (.lst (ys.map V.str))) l11 = some (.lst (ys.map V.str)) := upd_same
  refine g_name ?_
  exact hc _ _ _ _ _ _ _ _ _ _ _ _ t11 yl ysm k
set_option maxHeartbeats 32000000 in
theorem law_a {f : Addr} {cdv : Value} {A : Around} {outer : List Env} {s : Shared} {H : Hp} {E : XK} (hr : Room 5 (A.deeper (PyProof.Rows.envOfC "law" (defScope sLaw) s.heap.objs.size f cdv))) (B : Bt K mg) (D2 : Def P w K mg base 5 "_law_right" ["_law_text"] spRightT) (D3 : Def P w K mg base 4 "_law_asked" ["_law_text"] (spAskT K)) :
    ∃ t, QSs (cxOf CX0 P w K mg base ["_law_script", "_law_mixed", "_law_places", "_law_wishes", "_law_handed", "_law_text", "_law_at", "_law_sign", "_law_texts"] "law" (defScope sLaw) f cdv A outer s H E).nox ((defBody sLaw).drop 6) t ∧ ∀ (D : Ends) (H5 : Hp) (v0 v2 v3 v4 v6 v7 v8 : Option V) (m : Int) (z : Str), z.length ≤ 800 → (∀ H', D.rt (.bl true) H') →
      t D [v0, some (.int m), v2, v3, v4, some (.str z), v6, v7, v8] H5 := by
  obtain ⟨tb, qb, hb⟩ := law_b (P := P) (w := w) (K := K) (mg := mg) (base := base) (f := f) (cdv := cdv) (A := A) (outer := outer) (s := s) (H := H) (E := E) hr B D2 D3
  refine ⟨_, qCons (qSet (i := 6) scLaw.nd rfl (Or.inl rfl) ⟨pe_op op_mod (pv 1) (pe_op op_add (pe_callB call_len_str (by rfl) B.len b_len (pa_cons (pv 5) pa_nil)) pe_int)⟩ rfl (.inl rfl))
    (qCons (qSet (i := 7) scLaw.nd rfl (Or.inl rfl) (qIx ix_list (qL (qaC qS (qaC qS (qaC qS (qaC qS (qaC qS (qaC qS (qaC qS (qaC qS (qaC qS (qaC qS (qaC qS q0)))))))))))) ⟨pe_op op_mod (pe_op op_fdiv (pv 1) pe_int) pe_int⟩ (fun _ _ => rfl)) rfl (.inl rfl))
    (qCons (qSet (i := 8) scLaw.nd rfl (Or.inl rfl) (qL (qaN ⟨pv 5⟩ (qaB ⟨pe_op op_add_str (pe_slice sl_str (pv 5) po_none (po_some (pv 6))) (pe_slice sl_str (pv 5) (po_some (pe_op op_add (pv 6) pe_int)) po_none)⟩
      (qaB ⟨pe_op op_add_str (pe_op op_add_str (pe_slice sl_str (pv 5) po_none (po_some (pv 6))) (pv 7)) (pe_slice sl_str (pv 5) (po_some (pv 6)) po_none)⟩ (qaB ⟨pe_op op_add_str (pe_op op_add_str (pe_slice sl_str (pv 5) po_none (po_some (pv 6))) (pv 7)) (pe_slice sl_str (pv 5) (po_some (pe_op op_add (pv 6) pe_int)) po_none)⟩ q0))))) rfl (.inl rfl)) qb)), fun D H5 v0 v2 v3 v4 v6 v7 v8 m z tlen k => ?_⟩
  have zs : z.length ≤ sizeLine := big20 (by omega)
  refine ⟨_, rfl, _, rfl, z, rfl, zs, _, _, rfl, rfl, _, _, rfl, rfl, (by show (0 : Int) < ((z.length : Nat) : Int) + 1; omega), ?_⟩
  obtain ⟨at0, ea⟩ : ∃ at0 : Nat, m % (((z.length : Nat) : Int) + 1) = (at0 : Int) := ⟨(m % (((z.length : Nat) : Int) + 1)).toNat, by
    have := Int.emod_nonneg m (show ((z.length : Nat) : Int) + 1 ≠ 0 by omega)
    omega⟩
  show gName 6 (V.int (m % (((z.length : Nat) : Int) + 1))) _ _ _
  rw [ea]
  refine g_name ?_
  -- sign
  refine ⟨by decide, fun ls nls => ?_⟩
  obtain ⟨sg, hsg, lsg⟩ : ∃ sg : Str, atI [V.str "0", V.str "1", V.str "9", V.str " ", V.str ":", V.str "-", V.str "+", V.str "x", V.str "\n", V.str "\t", V.str "_"] (m / 7 % 11) = some (.str sg) ∧ sg.length ≤ 1 := by
    obtain ⟨i, ei, hi⟩ : ∃ i : Nat, m / 7 % 11 = (i : Int) ∧ i < 11 := ⟨(m / 7 % 11).toNat, by omega, by omega⟩
    rw [ei]
    match i, hi with
    | 0, _ => exact ⟨_, atI_nat (j := 0) rfl, by decide⟩
    | 1, _ => exact ⟨_, atI_nat (j := 1) rfl, by decide⟩
    | 2, _ => exact ⟨_, atI_nat (j := 2) rfl, by decide⟩
    | 3, _ => exact ⟨_, atI_nat (j := 3) rfl, by decide⟩
    | 4, _ => exact ⟨_, atI_nat (j := 4) rfl, by decide⟩
    | 5, _ => exact ⟨_, atI_nat (j := 5) rfl, by decide⟩
    | 6, _ => exact ⟨_, atI_nat (j := 6) rfl, by decide⟩
    | 7, _ => exact ⟨_, atI_nat (j := 7) rfl, by decide⟩
    | 8, _ => exact ⟨_, atI_nat (j := 8) rfl, by decide⟩
    | 9, _ => exact ⟨_, atI_nat (j := 9) rfl, by decide⟩
    | 10, _ => exact ⟨_, atI_nat (j := 10) rfl, by decide⟩
  refine ⟨_, rfl, _, _, rfl, rfl, ⟨by decide, by decide⟩, _, _, rfl, rfl, (by show (0 : Int) < 11; decide), ls, _, _, .str sg, rfl, rfl, SqL.of upd_same, hsg, ?_⟩
  refine g_name ?_
  generalize upd H5 ls _ = H6
  -- texts
  have sl : ∀ lo hi, (Txt.slice z lo hi).length ≤ 800 := fun lo hi => Nat.le_trans (Txt.slice_le z lo hi) tlen
  refine ⟨_, rfl, ?_⟩
  refine ⟨_, rfl, _, rfl, _, rfl, z, rfl, zs, _, rfl, _, rfl, _, _, rfl, rfl, _, rfl, z, rfl, zs, _, _, rfl, rfl, ?_, ?_⟩
  · have a := sl none (some (at0 : Int))
    have b := sl (some ((at0 : Int) + 1)) none
    exact big20 (by omega)
  refine ⟨_, rfl, _, rfl, _, rfl, z, rfl, zs, _, rfl, _, _, rfl, rfl, ?_, _, rfl, _, rfl, _, rfl, z, rfl, zs, _, _, rfl, rfl, ?_, ?_⟩
  · have a := sl none (some (at0 : Int))
    exact big20 (by omega)
  · have a := sl none (some (at0 : Int))
    have b := sl (some (at0 : Int)) none
    rw [Str.length_append]
    exact big20 (by omega)
  refine ⟨_, rfl, _, rfl, _, rfl, z, rfl, zs, _, rfl, _, _, rfl, rfl, ?_, _, rfl, _, rfl, _, _, rfl, rfl, _, rfl, z, rfl, zs, _, _, rfl, rfl, ?_, ?_⟩
  · have a := sl none (some (at0 : Int))
    exact big20 (by omega)
  · have a := sl none (some (at0 : Int))
    have b := sl (some ((at0 : Int) + 1)) none
    rw [Str.length_append]
    exact big20 (by omega)
  refine ⟨(by show (4 : Nat) ≤ sizeLine; decide), fun l5 n5 => ?_⟩
  obtain ⟨ys1, ey1, yl1⟩ : ∃ ys1 : List Str, [V.str z, V.str (Txt.slice z none (some (at0 : Int)) ++ Txt.slice z (some ((at0 : Int) + 1)) none), V.str (Txt.slice z none (some (at0 : Int)) ++ sg ++ Txt.slice z (some (at0 : Int)) none), V.str (Txt.slice z none (some (at0 : Int)) ++ sg ++ Txt.slice z (some ((at0 : Int) + 1)) none)] = ys1.map V.str ∧ ys1.length = 4 ∧ ∀ y ∈ ys1, y.length ≤ 10000 := by
    refine ⟨[z, Txt.slice z none (some (at0 : Int)) ++ Txt.slice z (some ((at0 : Int) + 1)) none, Txt.slice z none (some (at0 : Int)) ++ sg ++ Txt.slice z (some (at0 : Int)) none, Txt.slice z none (some (at0 : Int)) ++ sg ++ Txt.slice z (some ((at0 : Int) + 1)) none], rfl, rfl, fun y hy => ?_⟩
    have a := sl none (some (at0 : Int))
    have b := sl (some ((at0 : Int) + 1)) none
    have c := sl (some (at0 : Int)) none
    simp only [List.mem_cons, List.not_mem_nil, or_false] at hy
    rcases hy with rfl | rfl | rfl | rfl <;> (first | omega | (simp only [Str.length_append]; omega))
  show gName 8 (V.ref l5) _ (upd H6 l5 (.lst [V.str z, V.str (Txt.slice z none (some (at0 : Int)) ++ Txt.slice z (some ((at0 : Int) + 1)) none), V.str (Txt.slice z none (some (at0 : Int)) ++ sg ++ Txt.slice z (some (at0 : Int)) none), V.str (Txt.slice z none (some (at0 : Int)) ++ sg ++ Txt.slice z (some ((at0 : Int) + 1)) none)])) _
  rw [ey1]
  refine g_name ?_
  have t5 : (upd H6 l5 (.lst (ys1.map V.str))) l5 = some (.lst (ys1.map V.str)) := upd_same
  exact hb _ _ _ _ _ _ _ _ _ _ _ _ t5 yl1 k
set_option maxHeartbeats 32000000 in
theorem ok_law {f : Addr} {fd : FuncData} (F : Fun K "law" "law" sLaw f fd) (B : Bt K mg) (B2 : Bt2 mg) (D1 : Def P w K mg base 4 "written" ["places", "wishes"] spWritten) (D2 : Def P w K mg base 5 "_law_right" ["_law_text"] spRightT) (D3 : Def P w K mg base 4 "_law_asked" ["_law_text"] (spAskT K)) :
    FnOk P w K mg base CX0 6 f fd ["_law_script"] (spLaw K) := by
  refine F.ok scLaw (fun vs H Q E h => ?_) (fun cdv A outer s H vs Q E hr h => ?_)
  · obtain ⟨a, ns, rfl, _⟩ := h
    rfl
  obtain ⟨a, ns, rfl, ha, hlen, k⟩ := h
  have hu : (A.deeper (PyProof.Rows.envOfC "law" (defScope sLaw) s.heap.objs.size f cdv)).units < cLine := hr.units0
  have hr4 := hr.mono (show 4 ≤ 5 by decide)
  have nl : (ns.map V.int).length = ns.length := List.length_map ..
  obtain ⟨ta, qa, hta⟩ := law_a (P := P) (w := w) (K := K) (mg := mg) (base := base) (f := f) (cdv := cdv) (A := A) (outer := outer) (s := s) (H := H) (E := E) hr B D2 D3
  refine ⟨_, gSs (qCons (qSet (i := 1) scLaw.nd rfl (Or.inl rfl) ⟨pe_callB (call_sum rfl) (by rfl) B.sum b_sum (pa_cons (pv 0) pa_nil)⟩ rfl (.inl rfl))
    (qCons (qSet (i := 2) scLaw.nd rfl (Or.inr rfl) ⟨pe_op op_add (pe_op op_add pe_int (pe_callB call_len_seq (by rfl) B.len b_len (pa_cons (pv 0) pa_nil))) (pe_op op_mod (pv 1) pe_int)⟩ rfl (.inl rfl))
    (qCons ⟨ps_setC (i := 3) scLaw.nd rfl (Or.inl rfl) (sc := defScope sLaw) ["_law_script", "_law_mixed", "_law_places", "_law_wishes", "_law_handed", "_law_text", "_law_at", "_law_sign", "_law_texts"] ["_law_cell", "_law_places"] [none, some 2] ⟨rfl, by decide +kernel, by decide +kernel, by decide +kernel, by decide +kernel, rfl, by decide +kernel⟩ rfl rfl rfl (pi_list (pv 0)) (fun C s H fp nd => ⟨pg_name (i := 0) nd rfl (Or.inl rfl), pts_nil, pe_op op_mod (pv 0) (pv 1)⟩)⟩
    (qCons (qSet (i := 4) scLaw.nd rfl (Or.inl rfl) ⟨pe_callTy call_list_of (by rfl) B.list b_list (pa_cons (pv 3) pa_nil)⟩ rfl (.inl rfl))
    (qCons (qSet (i := 5) scLaw.nd rfl (Or.inl rfl) ⟨pe_bm PySem.F.plainAttrs_str PySem.F.slot_str_join PySem.F.type_str_join mt_join pe_str (pa_cons (pe_op op_cat (pe_lst (pa_cons (pe_op op_add_str (pe_callTy call_strI (by rfl) B2.str b_str (pa_cons (pv 2) pa_nil)) pe_str) pa_nil)) (pe_comp (sc := defScope sLaw) ["_law_script", "_law_mixed", "_law_places", "_law_wishes", "_law_handed", "_law_text", "_law_at", "_law_sign", "_law_texts"] ["_law_wish"] [none]
      ⟨rfl, by decide +kernel, by decide +kernel, by decide +kernel, by decide +kernel, rfl, by decide +kernel⟩ rfl rfl rfl (pi_list (pv 3)) (fun C s H fp nd => ⟨pg_name (i := 0) nd rfl (Or.inl rfl), pts_nil, pe_callTy call_strI (by rfl) B2.str b_str (pa_cons (pv 0) pa_nil)⟩))) pa_nil)⟩ rfl (.inl rfl))
    (qCons (qIf (pw_or (pt_cmpR op_ne (pe_callD D1 hr4 (by rfl) (pa_cons (pv 2) (pa_cons (pv 4) pa_nil))) (pv 5) (nomark _)) (pw_or1 (pt_cmpR (op_neL hu) (pv 4) (pv 3) (nomark _)))).pt (qOne (qRet qY)) qNil) qa)))))), ?_⟩
  refine ⟨_, rfl, a, ns, rfl, ha, ?_⟩
  refine ⟨_, rfl, a, _, rfl, .inl ha, _, _, rfl, rfl, _, rfl, _, _, rfl, rfl, (by show (0 : Int) < 50; decide), _, _, rfl, rfl, ?_⟩
  obtain ⟨p, ep, p1, p2⟩ : ∃ p : Nat, 1 + (((ns.map V.int).length : Nat) : Int) + ns.sum % 50 = (p : Int) ∧ 1 ≤ p ∧ p ≤ 1000 := ⟨(1 + ns.length + (ns.sum % 50).toNat), by rw [nl]; omega, by omega, by omega⟩
  show gName 2 (V.int (1 + (((ns.map V.int).length : Nat) : Int) + ns.sum % 50)) _ _ _
  rw [ep]
  refine g_name ?_
  -- the wishes
  refine ⟨_, rfl, a, rfl, ⟨_, ha⟩, ?_⟩
  refine comp_list (xs := ns.map V.int) (fun i => vI ((ns.take i).map fun c => (c % (p : Int)).toNat)) (fun i σ H' => H' = H ∧ ∃ v, σ = [v, some (.int (p : Int))]) (by rw [nl]; exact small63 hlen) (fun i hi => by rw [vI_len, List.length_map, List.length_take]; omega) rfl ⟨rfl, none, rfl⟩ (fun i σ H' e => by rw [e.1]; exact ha) ?_ ?_
  · rintro i y σ H' hy hi ⟨rfl, v, rfl⟩
    obtain ⟨n, hn, rfl⟩ := int_at' hy
    refine g_name ?_
    refine t_true ?_
    refine iteT ?_
    refine ⟨_, rfl, _, rfl, _, _, rfl, rfl, (by show (0 : Int) < (p : Int); omega), ?_⟩
    exact cnx hi (modT_take (by omega) hn).symm ⟨rfl, _, rfl⟩
  rintro σ H' lw ⟨rfl, v, rfl⟩ nlw
  rw [nl, List.take_length]
  obtain ⟨ws, ews⟩ : ∃ ws : List Nat, (ns.map fun c => (c % (p : Int)).toNat) = ws := ⟨_, rfl⟩
  have hw : ∀ w ∈ ws, w < p := fun w hm => by
    rw [← ews] at hm
    obtain ⟨c, _, rfl⟩ := List.mem_map.mp hm
    exact (emod_nat (by omega)).2
  have wl : ws.length ≤ 63 := by rw [← ews, List.length_map]; exact hlen
  rw [ews]
  have s1 : Same H' (upd H' lw (.lst (vI ws))) := Same.new nlw
  have h1 : (upd H' lw (.lst (vI ws))) lw = some (.lst (vI ws)) := upd_same
  generalize upd H' lw (.lst (vI ws)) = H1 at s1 h1
  refine ⟨_, rfl, lw, _, rfl, .inl (SqL.of h1), fun lh nlh => ?_⟩
  have s2 : Same H1 (upd H1 lh (.lst (vI ws))) := Same.new nlh
  have h2 : (upd H1 lh (.lst (vI ws))) lh = some (.lst (vI ws)) := upd_same
  have h12 := s2 _ _ h1
  refine g_name ?_
  generalize upd H1 lh (.lst (vI ws)) = H2 at s2 h2 h12
  -- the text
  have lp := numT_len (n := p) (by omega)
  refine ⟨rfl, _, rfl, (p : Int), rfl, num_log (by omega), numT (p : Int), ":", rfl, rfl, ?_, ?_⟩
  · have : (":" : Str).length = 1 := rfl
    rw [this]
    exact big20 (by omega)
  refine ⟨(by show (1 : Nat) ≤ sizeLine; decide), fun l3 n3 => ?_⟩
  have s3 : Same H2 (upd H2 l3 (.lst [.str (numT ((p : Nat) : Int) ++ ":")])) := Same.new n3
  have h3 : (upd H2 l3 (.lst [.str (numT ((p : Nat) : Int) ++ ":")])) l3 = some (.lst [.str (numT ((p : Nat) : Int) ++ ":")]) := upd_same
  have h13 := s3 _ _ h12
  have h23 := s3 _ _ h2
  generalize upd H2 l3 (.lst [.str (numT ((p : Nat) : Int) ++ ":")]) = H3 at s3 h3 h13 h23
  refine ⟨_, rfl, lw, rfl, ⟨_, SqL.of h13⟩, ?_⟩
  refine comp_list (xs := vI ws) (fun i => vS (ws.take i)) (fun i σ H' => H' = H3 ∧ σ.length = 1) (by rw [vI_len]; exact small63 wl) (fun i _ => by unfold vS; rw [List.length_map, List.length_take]; omega) rfl ⟨rfl, rfl⟩ (fun i σ H' e => by rw [e.1]; exact SqL.of h13) ?_ ?_
  · rintro i y σ H' hy hi ⟨rfl, hσ⟩
    obtain ⟨n, hn, rfl⟩ := vI_at hy
    have hwn := hw n (List.mem_of_getElem? hn)
    match σ, hσ with
    | [v], _ =>
      refine g_name ?_
      refine t_true ?_
      refine iteT ?_
      refine ⟨_, rfl, ((n : Nat) : Int), rfl, num_log (by omega), cnx hi ?_ ⟨rfl, rfl⟩⟩
      rw [take_succ_at hn, vS_snoc]
  rintro σ H' q ⟨rfl, _⟩ nfq
  rw [vI_len, List.take_length]
  have h3q : (upd H' q (.lst (vS ws))) l3 = some (.lst [.str (numT ((p : Nat) : Int) ++ ":")]) := by rw [upd_ne (ne_of_none h3 nfq)]; exact h3
  have sq : Same H' (upd H' q (.lst (vS ws))) := Same.new nfq
  refine ⟨l3, q, _, vS ws, rfl, rfl, h3q, upd_same, ?_, fun l4 n4 => ?_⟩
  · unfold vS
    rw [List.length_map]
    exact small63' (by show 1 + ws.length ≤ 900; omega)
  have e : [V.str (numT ((p : Nat) : Int) ++ ":")] ++ vS ws = ((numT ((p : Nat) : Int) ++ tx [58]) :: ws.map fun n => numT ((n : Nat) : Int)).map V.str := by
    rw [s_col, List.map_cons, List.map_map]
    rfl
  rw [e]
  refine ⟨_, l4, _, rfl, rfl, SqL.of upd_same, ?_, ?_⟩
  · rw [s_sp]
    exact join_fits (by omega) hw (by omega)
  rw [s_sp]
  have s4 := sq.next (o := .lst (((numT ((p : Nat) : Int) ++ tx [58]) :: ws.map fun n => numT ((n : Nat) : Int)).map V.str)) n4
  have h14 := s4 _ _ h13
  have h24 := s4 _ _ h23
  generalize upd (upd H' q (.lst (vS ws))) l4 (.lst (((numT ((p : Nat) : Int) ++ tx [58]) :: ws.map fun n => numT ((n : Nat) : Int)).map V.str)) = H4 at s4 h14 h24
  show gName 5 (V.str (txtOf p ws)) _ _ _
  have tlen := txt_len (p := p) (ns := ws) (by omega) hw wl
  obtain ⟨z, ez⟩ : ∃ z, txtOf p ws = z := ⟨_, rfl⟩
  rw [ez] at tlen ⊢
  refine g_name ?_
  -- written
  refine ⟨_, rfl, _, rfl, p, lh, ws, rfl, h24, hw, p1, by omega, by omega, fun H5 s5 => ?_⟩
  refine ⟨_, rfl, rfl, false, nq (by rw [ez]), iteF ?_⟩
  refine ⟨_, rfl, _, rfl, lh, lw, toI ws, toI ws, rfl, rfl, SqL.of (s5 _ _ h24), SqL.of (s5 _ _ h14), false, nqL rfl, iteF ?_⟩
  have zs : z.length ≤ sizeLine := big20 (by omega)
  exact hta _ _ _ _ _ _ _ _ _ _ z tlen k
end
/-! ### what the top has written -/
theorem kit_ref {K : PySem.W.Frag} {t : Value} {C : Addr} {b : Bool} (h1 : PySem.W.isClsIn K C = true) (h2 : PySem.W.typeIn K (.ref C) = some (.type "type")) (h3 : PySem.W.subIn K t (.ref C) = some b) (h4 : b = true ∨ (t == Value.ref C) = false) : PySem.W.kitOne K t (.ref C) = some b := by
  have e : PySem.W.kitCls K t (.ref C) = some b := by
    show (if ((PySem.W.clsIn K C).isSome && PySem.W.typeIn K (.ref C) == some (.type "type")) = true then PySem.W.subIn K t (.ref C) else none) = some b
    have h1 : (PySem.W.clsIn K C).isSome = true := h1
    rw [h1, h2]
    rw [if_pos (by simp)]
    exact h3
  unfold PySem.W.kitOne
  rcases h4 with z | z
  · by_cases c : (t == Value.ref C) = true
    · rw [if_pos c, z]
    · rw [if_neg c, e]
  · rw [if_neg (by rw [z]; exact Bool.false_ne_true), e]
theorem kit_ty {K : PySem.W.Frag} {t : Value} {n : String} {b : Bool} (h1 : PySem.W.kitMeta n = true) (h3 : PySem.W.subIn K t (.type n) = some b) (h4 : (t == Value.type n) = false) : PySem.W.kitOne K t (.type n) = some b := by
  unfold PySem.W.kitOne
  rw [if_neg (by rw [h4]; exact Bool.false_ne_true)]
  show (if PySem.W.kitMeta n = true then PySem.W.subIn K t (.type n) else none) = some b
  rw [if_pos h1]
  exact h3
theorem kit_own {K : PySem.W.Frag} {C : Addr} : PySem.W.kitOne K (.ref C) (.ref C) = some true := by
  unfold PySem.W.kitOne
  rw [if_pos (by simp)]
theorem exm_mk {K : PySem.W.Frag} {t : Value} {C : Addr} (h0 : PySem.W.subIn K (.ref C) (.type "BaseException") = some true) (h1 : PySem.W.isClsIn K C = true) (h2 : PySem.W.typeIn K (.ref C) = some (.type "type")) (h3 : PySem.W.subIn K t (.ref C) = some true) : PySem.W.exmOne K t (.ref C) = some true := by
  have h1 : (PySem.W.clsIn K C).isSome = true := h1
  unfold PySem.W.exmOne
  rw [h0, if_pos (by simp)]
  show (if ((PySem.W.clsIn K C).isSome && PySem.W.typeIn K (.ref C) == some (.type "type")) = true then PySem.W.subIn K t (.ref C) else none) = some true
  rw [h1, h2, if_pos (by simp)]
  exact h3
set_option maxHeartbeats 16000000 in
theorem all_mk {P : Program} {w : World} {K : PySem.W.Frag} {h : Heap} {mg : Str → Option Value} {fa : Addr} (X : K.In h) (G : h.Ns mainGlobals mg) (hfa : mg "law" = some (.ref fa))
    {fd0 : Addr} {odd0 and0 : Option Addr} {sld0 : Array (Option Value)} {ocd0 kVd0 dcd0 pmd0 cdd0 ctd0 : Value} {fd1 : Addr} {odd1 and1 : Option Addr} {sld1 : Array (Option Value)} {ocd1 kVd1 dcd1 pmd1 cdd1 ctd1 : Value} {fd2 : Addr} {odd2 and2 : Option Addr} {sld2 : Array (Option Value)} {ocd2 kVd2 dcd2 pmd2 cdd2 ctd2 : Value} {fd3 : Addr} {odd3 and3 : Option Addr} {sld3 : Array (Option Value)} {ocd3 kVd3 dcd3 pmd3 cdd3 ctd3 : Value} {fd4 : Addr} {odd4 and4 : Option Addr} {sld4 : Array (Option Value)} {ocd4 kVd4 dcd4 pmd4 cdd4 ctd4 : Value} {fd5 : Addr} {odd5 and5 : Option Addr} {sld5 : Array (Option Value)} {ocd5 kVd5 dcd5 pmd5 cdd5 ctd5 : Value} {fd6 : Addr} {odd6 and6 : Option Addr} {sld6 : Array (Option Value)} {ocd6 kVd6 dcd6 pmd6 cdd6 ctd6 : Value} {fd7 : Addr} {odd7 and7 : Option Addr} {sld7 : Array (Option Value)} {ocd7 kVd7 dcd7 pmd7 cdd7 ctd7 : Value} {fd8 : Addr} {odd8 and8 : Option Addr} {sld8 : Array (Option Value)} {ocd8 kVd8 dcd8 pmd8 cdd8 ctd8 : Value} {fd9 : Addr} {odd9 and9 : Option Addr} {sld9 : Array (Option Value)} {ocd9 kVd9 dcd9 pmd9 cdd9 ctd9 : Value} {fd10 : Addr} {odd10 and10 : Option Addr} {sld10 : Array (Option Value)} {ocd10 kVd10 dcd10 pmd10 cdd10 ctd10 : Value} {fd11 : Addr} {odd11 and11 : Option Addr} {sld11 : Array (Option Value)} {ocd11 kVd11 dcd11 pmd11 cdd11 ctd11 : Value} {CS : Addr} {CW : Addr} {CM : Addr} {CT : Addr} {CP : Addr} {CD : Addr} {CX : Addr} {tk_MOST_PLACES : Tok} {tk_FIGURES : Tok} {tk_MOST_FIGURES : Tok}
    (ad0 : PySem.W.nsIn K mainGlobals "is_number" = some (some (.ref fd0)))
    (ld0 : K.lookup fd0 = some ⟨ocd0, odd0, .func (PySem.W.fnOf "is_number" "is_number" (defArgs sIsNum) (defBody sIsNum) (defScope sIsNum) .none kVd0 dcd0 pmd0 and0 cdd0 ctd0), sld0⟩)
    (cd0 : PySem.W.codeIn K cdd0 "is_number" = true)
    (kd0 : PySem.W.keepIn K (.ref fd0) = true)
    (ad1 : PySem.W.nsIn K mainGlobals "is_each_below" = some (some (.ref fd1)))
    (ld1 : K.lookup fd1 = some ⟨ocd1, odd1, .func (PySem.W.fnOf "is_each_below" "is_each_below" (defArgs sEachB) (defBody sEachB) (defScope sEachB) .none kVd1 dcd1 pmd1 and1 cdd1 ctd1), sld1⟩)
    (cd1 : PySem.W.codeIn K cdd1 "is_each_below" = true)
    (kd1 : PySem.W.keepIn K (.ref fd1) = true)
    (ad2 : PySem.W.nsIn K mainGlobals "is_street" = some (some (.ref fd2)))
    (ld2 : K.lookup fd2 = some ⟨ocd2, odd2, .func (PySem.W.fnOf "is_street" "is_street" (defArgs sIsStreet) (defBody sIsStreet) (defScope sIsStreet) .none kVd2 dcd2 pmd2 and2 cdd2 ctd2), sld2⟩)
    (cd2 : PySem.W.codeIn K cdd2 "is_street" = true)
    (kd2 : PySem.W.keepIn K (.ref fd2) = true)
    (ad3 : PySem.W.nsIn K mainGlobals "check_street" = some (some (.ref fd3)))
    (ld3 : K.lookup fd3 = some ⟨ocd3, odd3, .func (PySem.W.fnOf "check_street" "check_street" (defArgs sChkStreet) (defBody sChkStreet) (defScope sChkStreet) .none kVd3 dcd3 pmd3 and3 cdd3 ctd3), sld3⟩)
    (cd3 : PySem.W.codeIn K cdd3 "check_street" = true)
    (kd3 : PySem.W.keepIn K (.ref fd3) = true)
    (ad4 : PySem.W.nsIn K mainGlobals "written" = some (some (.ref fd4)))
    (ld4 : K.lookup fd4 = some ⟨ocd4, odd4, .func (PySem.W.fnOf "written" "written" (defArgs sWritten) (defBody sWritten) (defScope sWritten) .none kVd4 dcd4 pmd4 and4 cdd4 ctd4), sld4⟩)
    (cd4 : PySem.W.codeIn K cdd4 "written" = true)
    (kd4 : PySem.W.keepIn K (.ref fd4) = true)
    (ad5 : PySem.W.nsIn K mainGlobals "number" = some (some (.ref fd5)))
    (ld5 : K.lookup fd5 = some ⟨ocd5, odd5, .func (PySem.W.fnOf "number" "number" (defArgs sNumber) (defBody sNumber) (defScope sNumber) .none kVd5 dcd5 pmd5 and5 cdd5 ctd5), sld5⟩)
    (cd5 : PySem.W.codeIn K cdd5 "number" = true)
    (kd5 : PySem.W.keepIn K (.ref fd5) = true)
    (ad6 : PySem.W.nsIn K mainGlobals "read" = some (some (.ref fd6)))
    (ld6 : K.lookup fd6 = some ⟨ocd6, odd6, .func (PySem.W.fnOf "read" "read" (defArgs sRead) (defBody sRead) (defScope sRead) .none kVd6 dcd6 pmd6 and6 cdd6 ctd6), sld6⟩)
    (cd6 : PySem.W.codeIn K cdd6 "read" = true)
    (kd6 : PySem.W.keepIn K (.ref fd6) = true)
    (ad7 : PySem.W.nsIn K mainGlobals "_law_number" = some (some (.ref fd7)))
    (ld7 : K.lookup fd7 = some ⟨ocd7, odd7, .func (PySem.W.fnOf "_law_number" "_law_number" (defArgs sNumL) (defBody sNumL) (defScope sNumL) .none kVd7 dcd7 pmd7 and7 cdd7 ctd7), sld7⟩)
    (cd7 : PySem.W.codeIn K cdd7 "_law_number" = true)
    (kd7 : PySem.W.keepIn K (.ref fd7) = true)
    (ad8 : PySem.W.nsIn K mainGlobals "_law_in" = some (some (.ref fd8)))
    (ld8 : K.lookup fd8 = some ⟨ocd8, odd8, .func (PySem.W.fnOf "_law_in" "_law_in" (defArgs sInL) (defBody sInL) (defScope sInL) .none kVd8 dcd8 pmd8 and8 cdd8 ctd8), sld8⟩)
    (cd8 : PySem.W.codeIn K cdd8 "_law_in" = true)
    (kd8 : PySem.W.keepIn K (.ref fd8) = true)
    (ad9 : PySem.W.nsIn K mainGlobals "_law_asked" = some (some (.ref fd9)))
    (ld9 : K.lookup fd9 = some ⟨ocd9, odd9, .func (PySem.W.fnOf "_law_asked" "_law_asked" (defArgs sAskedL) (defBody sAskedL) (defScope sAskedL) .none kVd9 dcd9 pmd9 and9 cdd9 ctd9), sld9⟩)
    (cd9 : PySem.W.codeIn K cdd9 "_law_asked" = true)
    (kd9 : PySem.W.keepIn K (.ref fd9) = true)
    (ad10 : PySem.W.nsIn K mainGlobals "_law_right" = some (some (.ref fd10)))
    (ld10 : K.lookup fd10 = some ⟨ocd10, odd10, .func (PySem.W.fnOf "_law_right" "_law_right" (defArgs sRightL) (defBody sRightL) (defScope sRightL) .none kVd10 dcd10 pmd10 and10 cdd10 ctd10), sld10⟩)
    (cd10 : PySem.W.codeIn K cdd10 "_law_right" = true)
    (kd10 : PySem.W.keepIn K (.ref fd10) = true)
    (ad11 : PySem.W.nsIn K mainGlobals "law" = some (some (.ref fd11)))
    (ld11 : K.lookup fd11 = some ⟨ocd11, odd11, .func (PySem.W.fnOf "law" "law" (defArgs sLaw) (defBody sLaw) (defScope sLaw) .none kVd11 dcd11 pmd11 and11 cdd11 ctd11), sld11⟩)
    (cd11 : PySem.W.codeIn K cdd11 "law" = true)
    (kd11 : PySem.W.keepIn K (.ref fd11) = true)
    (nocl : PySem.W.specialIn K (.builtin "object.__class__") "__get__" = some (some (.builtin "getset_descriptor.__get__")))
    (taken : PySem.W.takesIn K (.builtin "object.__class__") = some true)
    (nCS : PySem.W.nsIn K mainGlobals "StreetError" = some (some (.ref CS)))
    (tyCS : PySem.W.typeIn K (.ref CS) = some (.type "type"))
    (isCS : PySem.W.isClsIn K CS = true)
    (sbCS : PySem.W.subIn K (.ref CS) (.type "BaseException") = some true)
    (nCW : PySem.W.nsIn K mainGlobals "BadWishes" = some (some (.ref CW)))
    (tyCW : PySem.W.typeIn K (.ref CW) = some (.type "type"))
    (isCW : PySem.W.isClsIn K CW = true)
    (nCM : PySem.W.nsIn K mainGlobals "TooMany" = some (some (.ref CM)))
    (tyCM : PySem.W.typeIn K (.ref CM) = some (.type "type"))
    (isCM : PySem.W.isClsIn K CM = true)
    (nCT : PySem.W.nsIn K mainGlobals "BadTree" = some (some (.ref CT)))
    (tyCT : PySem.W.typeIn K (.ref CT) = some (.type "type"))
    (isCT : PySem.W.isClsIn K CT = true)
    (nCP : PySem.W.nsIn K mainGlobals "BadPath" = some (some (.ref CP)))
    (tyCP : PySem.W.typeIn K (.ref CP) = some (.type "type"))
    (isCP : PySem.W.isClsIn K CP = true)
    (nCD : PySem.W.nsIn K mainGlobals "BadStanding" = some (some (.ref CD)))
    (tyCD : PySem.W.typeIn K (.ref CD) = some (.type "type"))
    (isCD : PySem.W.isClsIn K CD = true)
    (nCX : PySem.W.nsIn K mainGlobals "BadText" = some (some (.ref CX)))
    (tyCX : PySem.W.typeIn K (.ref CX) = some (.type "type"))
    (isCX : PySem.W.isClsIn K CX = true)
    (gaCX : PySem.W.findIn K (.ref CX) "__getattribute__" = some (some (.builtin "BaseException.__getattribute__")))
    (gnCX : PySem.W.findIn K (.ref CX) "__getattr__" = some none)
    (clCX : PySem.W.findIn K (.ref CX) "__class__" = some (some (.builtin "object.__class__")))
    (moCX : PySem.W.mroIn K CX (.type "object") = some true)
    (mbCX : PySem.W.mroIn K CX (.type "BaseException") = some true)
    (exCX : PySem.W.excIn K CX [.type "ValueError", .type "Exception", .type "BaseException", .type "object"] "ValueError.__new__" = true)
    (kpCX : PySem.W.keepIn K (.ref CX) = true)
    (svCX : PySem.W.subIn K (.ref CX) (.type "ValueError") = some true)
    (suCXCW : PySem.W.subIn K (.ref CX) (.ref CW) = some false)
    (neCXCW : (Value.ref CX == Value.ref CW) = false)
    (suCXCM : PySem.W.subIn K (.ref CX) (.ref CM) = some false)
    (neCXCM : (Value.ref CX == Value.ref CM) = false)
    (suCXCT : PySem.W.subIn K (.ref CX) (.ref CT) = some false)
    (neCXCT : (Value.ref CX == Value.ref CT) = false)
    (suCXCP : PySem.W.subIn K (.ref CX) (.ref CP) = some false)
    (neCXCP : (Value.ref CX == Value.ref CP) = false)
    (suCXCD : PySem.W.subIn K (.ref CX) (.ref CD) = some false)
    (neCXCD : (Value.ref CX == Value.ref CD) = false)
    (suCXCS : PySem.W.subIn K (.ref CX) (.ref CS) = some true)
    (zValueError : PySem.W.nsIn K mainGlobals "ValueError" = some none)
    (coMOST_PLACES : PySem.W.nsIn K mainGlobals "MOST_PLACES" = some (some (.int 1000000 tk_MOST_PLACES)))
    (coFIGURES : PySem.W.nsIn K mainGlobals "FIGURES" = some (some (.str "0123456789" tk_FIGURES)))
    (coMOST_FIGURES : PySem.W.nsIn K mainGlobals "MOST_FIGURES" = some (some (.int 7 tk_MOST_FIGURES)))
    (sib : PySem.W.subIn K (.type "int") (.type "bool") = some false)
    (zisinstance : PySem.W.nsIn K mainGlobals "isinstance" = some none)
    (zint : PySem.W.nsIn K mainGlobals "int" = some none)
    (zbool : PySem.W.nsIn K mainGlobals "bool" = some none)
    (zlist : PySem.W.nsIn K mainGlobals "list" = some none)
    (zenumerate : PySem.W.nsIn K mainGlobals "enumerate" = some none)
    (zsorted : PySem.W.nsIn K mainGlobals "sorted" = some none)
    (zrange : PySem.W.nsIn K mainGlobals "range" = some none)
    (zall : PySem.W.nsIn K mainGlobals "all" = some none)
    (zany : PySem.W.nsIn K mainGlobals "any" = some none)
    (zsum : PySem.W.nsIn K mainGlobals "sum" = some none)
    (zmax : PySem.W.nsIn K mainGlobals "max" = some none)
    (zlen : PySem.W.nsIn K mainGlobals "len" = some none)
    (zzip : PySem.W.nsIn K mainGlobals "zip" = some none)
    (zstr : PySem.W.nsIn K mainGlobals "str" = some none)
    (ztuple : PySem.W.nsIn K mainGlobals "tuple" = some none) :
    ∃ fd : FuncData, (∀ (s : Shared) (v : Value), BindsTo s fd ⟨[v], []⟩ [("_law_script", v)]) ∧ ∀ base : Heap, K.In base → base.Ns mainGlobals mg → FnOk P w K mg base CX0 6 fa fd ["_law_script"] (spLaw K) := by
  have S0 : Src K mg "is_number" sIsNum ["thing"] := ⟨fd0, _, PySem.W.mg_of X G ad0, fun_mk (st := sIsNum) ld0 cd0 kd0, (fun_mk (st := sIsNum) ld0 cd0 kd0).binds (ps := ["thing"]) fun _ _ _ _ _ _ us hl => match us, hl with | [_], _ => rfl⟩
  have S1 : Src K mg "is_each_below" sEachB ["bound", "things"] := ⟨fd1, _, PySem.W.mg_of X G ad1, fun_mk (st := sEachB) ld1 cd1 kd1, (fun_mk (st := sEachB) ld1 cd1 kd1).binds (ps := ["bound", "things"]) fun _ _ _ _ _ _ us hl => match us, hl with | [_, _], _ => rfl⟩
  have S2 : Src K mg "is_street" sIsStreet ["places"] := ⟨fd2, _, PySem.W.mg_of X G ad2, fun_mk (st := sIsStreet) ld2 cd2 kd2, (fun_mk (st := sIsStreet) ld2 cd2 kd2).binds (ps := ["places"]) fun _ _ _ _ _ _ us hl => match us, hl with | [_], _ => rfl⟩
  have S3 : Src K mg "check_street" sChkStreet ["places", "wishes"] := ⟨fd3, _, PySem.W.mg_of X G ad3, fun_mk (st := sChkStreet) ld3 cd3 kd3, (fun_mk (st := sChkStreet) ld3 cd3 kd3).binds (ps := ["places", "wishes"]) fun _ _ _ _ _ _ us hl => match us, hl with | [_, _], _ => rfl⟩
  have S4 : Src K mg "written" sWritten ["places", "wishes"] := ⟨fd4, _, PySem.W.mg_of X G ad4, fun_mk (st := sWritten) ld4 cd4 kd4, (fun_mk (st := sWritten) ld4 cd4 kd4).binds (ps := ["places", "wishes"]) fun _ _ _ _ _ _ us hl => match us, hl with | [_, _], _ => rfl⟩
  have S5 : Src K mg "number" sNumber ["word"] := ⟨fd5, _, PySem.W.mg_of X G ad5, fun_mk (st := sNumber) ld5 cd5 kd5, (fun_mk (st := sNumber) ld5 cd5 kd5).binds (ps := ["word"]) fun _ _ _ _ _ _ us hl => match us, hl with | [_], _ => rfl⟩
  have S6 : Src K mg "read" sRead ["text"] := ⟨fd6, _, PySem.W.mg_of X G ad6, fun_mk (st := sRead) ld6 cd6 kd6, (fun_mk (st := sRead) ld6 cd6 kd6).binds (ps := ["text"]) fun _ _ _ _ _ _ us hl => match us, hl with | [_], _ => rfl⟩
  have S7 : Src K mg "_law_number" sNumL ["_law_word"] := ⟨fd7, _, PySem.W.mg_of X G ad7, fun_mk (st := sNumL) ld7 cd7 kd7, (fun_mk (st := sNumL) ld7 cd7 kd7).binds (ps := ["_law_word"]) fun _ _ _ _ _ _ us hl => match us, hl with | [_], _ => rfl⟩
  have S8 : Src K mg "_law_in" sInL ["_law_text"] := ⟨fd8, _, PySem.W.mg_of X G ad8, fun_mk (st := sInL) ld8 cd8 kd8, (fun_mk (st := sInL) ld8 cd8 kd8).binds (ps := ["_law_text"]) fun _ _ _ _ _ _ us hl => match us, hl with | [_], _ => rfl⟩
  have S9 : Src K mg "_law_asked" sAskedL ["_law_text"] := ⟨fd9, _, PySem.W.mg_of X G ad9, fun_mk (st := sAskedL) ld9 cd9 kd9, (fun_mk (st := sAskedL) ld9 cd9 kd9).binds (ps := ["_law_text"]) fun _ _ _ _ _ _ us hl => match us, hl with | [_], _ => rfl⟩
  have S10 : Src K mg "_law_right" sRightL ["_law_text"] := ⟨fd10, _, PySem.W.mg_of X G ad10, fun_mk (st := sRightL) ld10 cd10 kd10, (fun_mk (st := sRightL) ld10 cd10 kd10).binds (ps := ["_law_text"]) fun _ _ _ _ _ _ us hl => match us, hl with | [_], _ => rfl⟩
  have FL := fun_mk (st := sLaw) ld11 cd11 kd11
  have xCX : XC K CX := ⟨gaCX, gnCX, clCX, nocl, taken, moCX, mbCX, isCX, exCX, kpCX⟩
  have ZCX : Xk K CX CS CW CM CT CP CD CX false false false false false true := ⟨xCX, exm_mk sbCS isCS tyCS suCXCS, kit_ty (by decide +kernel) svCX (by rfl), kit_ref isCW tyCW suCXCW (.inr neCXCW), kit_ref isCM tyCM suCXCM (.inr neCXCM), kit_ref isCT tyCT suCXCT (.inr neCXCT), kit_ref isCP tyCP suCXCP (.inr neCXCP), kit_ref isCD tyCD suCXCD (.inr neCXCD), kit_own⟩
  have NX : Xs K mg CS CW CM CT CP CD CX := ⟨PySem.W.mg_of X G nCS, PySem.W.mg_of X G nCW, PySem.W.mg_of X G nCM, PySem.W.mg_of X G nCT, PySem.W.mg_of X G nCP, PySem.W.mg_of X G nCD, PySem.W.mg_of X G nCX, PySem.W.mg_none_of X G zValueError⟩
  have B4 : Bt4 mg := ⟨PySem.W.mg_none_of X G ztuple⟩
  have B2 : Bt2 mg := ⟨PySem.W.mg_none_of X G zzip, PySem.W.mg_none_of X G zstr⟩
  have B : Bt K mg := ⟨PySem.W.mg_none_of X G zisinstance, PySem.W.mg_none_of X G zint, PySem.W.mg_none_of X G zbool, PySem.W.mg_none_of X G zlist, PySem.W.mg_none_of X G zenumerate, PySem.W.mg_none_of X G zsorted, PySem.W.mg_none_of X G zrange, PySem.W.mg_none_of X G zall, PySem.W.mg_none_of X G zany, PySem.W.mg_none_of X G zsum, PySem.W.mg_none_of X G zmax, PySem.W.mg_none_of X G zlen, kit_ty (by decide +kernel) sib (by rfl)⟩

  have LAW := fun base : Heap => by
    have DG := d_isnumG (P := P) (w := w) (base := base) S0 B
    have D1 := d_eachb (P := P) (w := w) (base := base) S1 DG
    have D2 := d_isstreet (P := P) (w := w) (base := base) S2 ⟨_, PySem.W.mg_of X G coMOST_PLACES⟩ DG
    have D3 : Def P w K mg base 3 "check_street" ["places", "wishes"] spChkStreet := d_chkstreet S3 B D2 D1
    have D4 : Def P w K mg base 4 "written" ["places", "wishes"] spWritten := d_written S4 B2 D3
    have D5 : DefX P w K mg base 1 "number" ["word"] (spNumber CX) := d_number S5 B xCX NX.mx ⟨_, PySem.W.mg_of X G coFIGURES⟩ ⟨_, PySem.W.mg_of X G coMOST_FIGURES⟩
    have D6 : DefX P w K mg base 3 "read" ["text"] (spRead K CX) := d_read S6 B B2 xCX NX.mx D5 D2 D1
    have D7 : Def P w K mg base 1 "_law_number" ["_law_word"] spNumL := d_numl S7 B
    have D8 : Def P w K mg base 2 "_law_in" ["_law_text"] spInL := d_inl S8 B D7
    have D9 : Def P w K mg base 4 "_law_asked" ["_law_text"] (spAskT K) := d_askt S9 B NX ZCX D6
    have D10 : Def P w K mg base 5 "_law_right" ["_law_text"] spRightT := d_rightt S10 B B4 D8 D9 D4 D6
    exact ok_law (P := P) (w := w) (base := base) FL B B2 D4 D10 D9
  have e := hfa.symm.trans (PySem.W.mg_of X G ad11)
  cases e
  refine ⟨PySem.W.fnOf "law" "law" (defArgs sLaw) (defBody sLaw) (defScope sLaw) .none kVd11 dcd11 pmd11 and11 cdd11 ctd11, fun s v => .of_eq rfl, fun base _ _ => ?_⟩
  exact LAW base
theorem walk {l : PySem.W.OpenLaw} {q : Program} {loose : List Str} {XP : (Str → Option Value) → Heap → Prop} {YP : World → Heap → Prop} {d : DefRec} {K : Params → PySem.W.Frag} (hn : l.most = some 63) (hdf : d.params.defaults = [])
    (hY : ∀ (w : World) (h : Heap), YP w h → (K w.params).In h)
    (F : ∀ (w : World) (mg : Str → Option Value) (fa : Addr) (h : Heap), (K w.params).In h → h.Ns mainGlobals mg → mg d.name = some (.ref fa) →
      ∃ fd : FuncData, (∀ (s : Shared) (u : Value), BindsTo s fd ⟨[u], []⟩ [("_law_script", u)]) ∧ ∀ base : Heap, (K w.params).In base → base.Ns mainGlobals mg → FnOk l.prog w (K w.params) mg base CX0 6 fa fd ["_law_script"] (spLaw (K w.params))) :
    PySem.W.WalkO q loose XP YP l.row.toRowW d [] (fun f vs => PySem.call f vs) :=
  L2.walk_of (n := 63) (k := 6) (x := "_law_script") (CX := fun _ => CX0) (sp := fun w => spLaw (K w.params)) hn (by decide) hdf ⟨rfl, by decide, by decide⟩ hY F (fun _ _ a ns hl _ hS => ⟨a, ns, rfl, hS, hl, fun _ => rfl⟩) fun _ _ _ _ _ z => z
end Pr
open PySem PySem.W PyProof.Rows
set_option maxRecDepth 100000 in
set_option maxHeartbeats 0 in
theorem PySem.Challenge.cw_parkrow_k11_texts_holds : PySem.Challenge.rw_parkrow_k11_texts.Holds := by
  w_on; o_law; k_head; (case hw => w_witness2)
  k_fill
  refine Pr.walk (l := PySem.Challenge.rw_parkrow_k11_texts) rfl rfl (fun w h Y => PySem.W.kIn_of Y) ?F
  case F =>
    intro w mg fa h KX G hmg
    refine' Pr.all_mk KX G hmg ?ad0 ?ld0 ?cd0 ?kd0 ?ad1 ?ld1 ?cd1 ?kd1 ?ad2 ?ld2 ?cd2 ?kd2 ?ad3 ?ld3 ?cd3 ?kd3 ?ad4 ?ld4 ?cd4 ?kd4 ?ad5 ?ld5 ?cd5 ?kd5 ?ad6 ?ld6 ?cd6 ?kd6 ?ad7 ?ld7 ?cd7 ?kd7 ?ad8 ?ld8 ?cd8 ?kd8 ?ad9 ?ld9 ?cd9 ?kd9 ?ad10 ?ld10 ?cd10 ?kd10 ?ad11 ?ld11 ?cd11 ?kd11 ?nocl ?taken ?nCS ?tyCS ?isCS ?sbCS ?nCW ?tyCW ?isCW ?nCM ?tyCM ?isCM ?nCT ?tyCT ?isCT ?nCP ?tyCP ?isCP ?nCD ?tyCD ?isCD ?nCX ?tyCX ?isCX ?gaCX ?gnCX ?clCX ?moCX ?mbCX ?exCX ?kpCX ?svCX ?suCXCW ?neCXCW ?suCXCM ?neCXCM ?suCXCT ?neCXCT ?suCXCP ?neCXCP ?suCXCD ?neCXCD ?suCXCS ?zValueError ?coMOST_PLACES ?coFIGURES ?coMOST_FIGURES ?sib ?zisinstance ?zint ?zbool ?zlist ?zenumerate ?zsorted ?zrange ?zall ?zany ?zsum ?zmax ?zlen ?zzip ?zstr ?ztuple
    (case ad0 => k_is)
    (case ld0 => k_is)
    (case cd0 => k_is)
    (case kd0 => k_is)
    (case ad1 => k_is)
    (case ld1 => k_is)
    (case cd1 => k_is)
    (case kd1 => k_is)
    (case ad2 => k_is)
    (case ld2 => k_is)
    (case cd2 => k_is)
    (case kd2 => k_is)
    (case ad3 => k_is)
    (case ld3 => k_is)
    (case cd3 => k_is)
    (case kd3 => k_is)
    (case ad4 => k_is)
    (case ld4 => k_is)
    (case cd4 => k_is)
    (case kd4 => k_is)
    (case ad5 => k_is)
    (case ld5 => k_is)
    (case cd5 => k_is)
    (case kd5 => k_is)
    (case ad6 => k_is)
    (case ld6 => k_is)
    (case cd6 => k_is)
    (case kd6 => k_is)
    (case ad7 => k_is)
    (case ld7 => k_is)
    (case cd7 => k_is)
    (case kd7 => k_is)
    (case ad8 => k_is)
    (case ld8 => k_is)
    (case cd8 => k_is)
    (case kd8 => k_is)
    (case ad9 => k_is)
    (case ld9 => k_is)
    (case cd9 => k_is)
    (case kd9 => k_is)
    (case ad10 => k_is)
    (case ld10 => k_is)
    (case cd10 => k_is)
    (case kd10 => k_is)
    (case ad11 => k_is)
    (case ld11 => k_is)
    (case cd11 => k_is)
    (case kd11 => k_is)
    (case nocl => k_is)
    (case taken => k_is)
    (case nCS => k_is)
    (case tyCS => k_is)
    (case isCS => k_is)
    (case sbCS => k_is)
    (case nCW => k_is)
    (case tyCW => k_is)
    (case isCW => k_is)
    (case nCM => k_is)
    (case tyCM => k_is)
    (case isCM => k_is)
    (case nCT => k_is)
    (case tyCT => k_is)
    (case isCT => k_is)
    (case nCP => k_is)
    (case tyCP => k_is)
    (case isCP => k_is)
    (case nCD => k_is)
    (case tyCD => k_is)
    (case isCD => k_is)
    (case nCX => k_is)
    (case tyCX => k_is)
    (case isCX => k_is)
    (case gaCX => k_is)
    (case gnCX => k_is)
    (case clCX => k_is)
    (case moCX => k_is)
    (case mbCX => k_is)
    (case exCX => k_exc)
    (case kpCX => k_is)
    (case svCX => k_is)
    (case suCXCW => k_is)
    (case neCXCW => rfl)
    (case suCXCM => k_is)
    (case neCXCM => rfl)
    (case suCXCT => k_is)
    (case neCXCT => rfl)
    (case suCXCP => k_is)
    (case neCXCP => rfl)
    (case suCXCD => k_is)
    (case neCXCD => rfl)
    (case suCXCS => k_is)
    (case zValueError => k_is)
    (case coMOST_PLACES => k_is)
    (case coFIGURES => k_is)
    (case coMOST_FIGURES => k_is)
    (case sib => k_is)
    (case zisinstance => k_is)
    (case zint => k_is)
    (case zbool => k_is)
    (case zlist => k_is)
    (case zenumerate => k_is)
    (case zsorted => k_is)
    (case zrange => k_is)
    (case zall => k_is)
    (case zany => k_is)
    (case zsum => k_is)
    (case zmax => k_is)
    (case zlen => k_is)
    (case zzip => k_is)
    (case zstr => k_is)
    (case ztuple => k_is)

