import PyProof.Rows.All
import Wide.All
import OpenK.AllK
import Wide.FinOn
import Lean
import PyProof.EqAt
import PyProof.EqKinds
import PyProof.TupleCall
import PySem.Challenge.RW_parkrow_k12_refused
import KE.KTryMore
import KE.KRevSl
import KE.KSortAsk
import KE.KSortTup
import KE.KLam
import KE.KNestM
import PyProof.ListRange
set_option Elab.async false
set_option linter.all false
set_option maxRecDepth 100000
set_option maxHeartbeats 4000000
namespace L2
open PySem PySem.Spec PyProof.Rows
abbrev Key := Sum Int Str
def keyIs : Key → Value → Bool
  | .inl k, v => Value.isInt k v
  | .inr x, v => Value.isStrOf x v
def keyH (w : World) : Key → Int
  | .inl k => hashInt k
  | .inr x => hashStr w x
theorem keyIs_shape : ∀ {k : Key} {v : Value}, keyIs k v = true → (∃ i t, k = Sum.inl i ∧ v = Value.int i t) ∨ (∃ x t, k = Sum.inr x ∧ v = Value.str x t)
  | .inl i, v, h => by
    obtain ⟨t, e⟩ := Value.isInt_shape (k := i) (v := v) h
    exact .inl ⟨i, t, rfl, e⟩
  | .inr x, v, h => by
    obtain ⟨t, e⟩ := Value.isStrOf_shape (x := x) (v := v) h
    exact .inr ⟨x, t, rfl, e⟩
theorem keyIs_int (i : Int) (t : Tok) : keyIs (.inl i) (.int i t) = true := by simp [keyIs, Value.isInt]
theorem keyIs_str (x : Str) (t : Tok) : keyIs (.inr x) (.str x t) = true := by simp [keyIs, Value.isStrOf]
theorem key_ll (a b : Int) : decide ((Sum.inl a : Key) = Sum.inl b) = (a == b) := by
  by_cases e : a = b
  · subst e; simp
  · have h : ¬ (Sum.inl a : Key) = Sum.inl b := fun q => e (Sum.inl.inj q)
    rw [decide_eq_false h]
    exact (beq_eq_false_iff_ne.mpr e).symm
theorem key_rr (a b : Str) : decide ((Sum.inr a : Key) = Sum.inr b) = decide (a = b) := by
  by_cases e : a = b
  · subst e; simp
  · have h : ¬ (Sum.inr a : Key) = Sum.inr b := fun q => e (Sum.inr.inj q)
    rw [decide_eq_false h, decide_eq_false e]
theorem key_lr (a : Int) (b : Str) : decide ((Sum.inl a : Key) = Sum.inr b) = false := decide_eq_false (fun q => nomatch q)
theorem key_rl (a : Str) (b : Int) : decide ((Sum.inr a : Key) = Sum.inl b) = false := decide_eq_false (fun q => nomatch q)
def mixKind (prog : Program) (w : World) : PySem.KeyKind prog w Key where
  is := keyIs
  hash := keyH w
  inj := fun v a b ha hb => by
    rcases keyIs_shape ha with ⟨i, t, rfl, rfl⟩ | ⟨x, t, rfl, rfl⟩
    · rcases keyIs_shape hb with ⟨j, u, rfl, e⟩ | ⟨y, u, rfl, e⟩
      · injection e with e1 _; rw [e1]
      · exact nomatch e
    · rcases keyIs_shape hb with ⟨j, u, rfl, e⟩ | ⟨y, u, rfl, e⟩
      · exact nomatch e
      · injection e with e1 _; rw [e1]
  byValue := fun k v h => by
    rcases keyIs_shape h with ⟨i, t, rfl, rfl⟩ | ⟨x, t, rfl, rfl⟩ <;> rfl
  pyHash := fun hv h => by
    rcases keyIs_shape hv with ⟨i, t, rfl, rfl⟩ | ⟨x, t, rfl, rfl⟩
    · exact wpAny_pyHash_int h
    · exact wpAny_pyHash_str h
  eqBool := fun hu hv h => by
    rcases keyIs_shape hu with ⟨i, t, rfl, rfl⟩ | ⟨x, t, rfl, rfl⟩
    · rcases keyIs_shape hv with ⟨j, u, rfl, rfl⟩ | ⟨y, u, rfl, rfl⟩
      · rw [key_ll] at h; exact wpAny_eqBool_int h
      · rw [key_lr] at h; exact SeqAt.EqAt.int_str i t y u _ _ _ _ h
    · rcases keyIs_shape hv with ⟨j, u, rfl, rfl⟩ | ⟨y, u, rfl, rfl⟩
      · rw [key_rl] at h; exact SeqAt.EqAt.str_int x t j u _ _ _ _ h
      · rw [key_rr] at h; exact wpAny_eqBool_str h
  «strs» := fun k x t v h => by
    rcases keyIs_shape h with ⟨i, u, rfl, e⟩ | ⟨y, u, rfl, e⟩
    · exact nomatch e
    · injection e with e1 _
      subst e1
      cases v <;> rfl
theorem mixKind_int (prog : Program) (w : World) (i : Int) (t : Tok) : (mixKind prog w).is (.inl i) (.int i t) = true := keyIs_int i t
theorem mixKind_str (prog : Program) (w : World) (x : Str) (t : Tok) : (mixKind prog w).is (.inr x) (.str x t) = true := keyIs_str x t
end L2
namespace L2
open PySem PySem.Spec PyProof.Rows
inductive V where
  | non | bl (b : Bool) | int (i : Int) | str (x : Str) | byt (b : Array UInt8) | flt (b : UInt64) | ref (a : Addr) | ty (n : String)
  deriving DecidableEq
def RelV : V → Value → Prop
  | .non, u => u = Value.none
  | .bl b, u => u = Value.bool b
  | .int i, u => ∃ t, u = Value.int i t
  | .str x, u => ∃ t, u = Value.str x t
  | .byt b, u => ∃ t, u = Value.bytes b t
  | .flt b, u => ∃ t, u = Value.float b t
  | .ref a, u => u = Value.ref a
  | .ty n, u => u = Value.type n
abbrev Vals : List V → List Value → Prop := Paired RelV
theorem Vals.length {xs : List V} {us : List Value} (r : Vals xs us) : xs.length = us.length := Paired.length r
theorem Vals.get : ∀ {xs : List V} {us : List Value} {i : Nat} {x : V}, Vals xs us → xs[i]? = some x → ∃ u, us[i]? = some u ∧ RelV x u
  | _, _, _, _, .nil, e => by simp at e
  | _, _, 0, _, .cons r _, e => by simp at e; subst e; exact ⟨_, rfl, r⟩
  | _, _, i + 1, x, .cons _ t, e => by
    obtain ⟨u, h1, h2⟩ := Vals.get (i := i) (x := x) t (by simpa using e)
    exact ⟨u, by simpa using h1, h2⟩
theorem Vals.set {x : V} {u : Value} (r : RelV x u) : ∀ {xs : List V} {us : List Value} (i : Nat), Vals xs us → Vals (xs.set i x) (us.set i u)
  | _, _, _, .nil => .nil
  | _, _, 0, .cons _ t => .cons r t
  | _, _, i + 1, .cons q t => .cons q (Vals.set r i t)
theorem Vals.append : ∀ {xs ys : List V} {us ws : List Value}, Vals xs us → Vals ys ws → Vals (xs ++ ys) (us ++ ws)
  | _, _, _, _, .nil, s => s
  | _, _, _, _, .cons r t, s => .cons r (Vals.append t s)
theorem Vals.take : ∀ {xs : List V} {us : List Value} (n : Nat), Vals xs us → Vals (xs.take n) (us.take n)
  | _, _, 0, _ => .nil
  | _, _, _ + 1, .nil => .nil
  | _, _, n + 1, .cons r t => .cons r (Vals.take n t)
theorem Vals.drop : ∀ {xs : List V} {us : List Value} (n : Nat), Vals xs us → Vals (xs.drop n) (us.drop n)
  | _, _, 0, r => r
  | _, _, _ + 1, .nil => .nil
  | _, _, n + 1, .cons _ t => Vals.drop n t
def RelO : Option V → Option Value → Prop
  | some v, some u => RelV v u
  | none, none => True
  | _, _ => False
def KV {κ : Type} : List (κ × V) → List (κ × Value) → Prop := Paired fun (p : κ × V) (q : κ × Value) => p.1 = q.1 ∧ RelV p.2 q.2
def kV : Key → V
  | .inl i => .int i
  | .inr x => .str x
inductive HO where
    | lst (xs : List V)
    | tup (xs : List V)
    | dK (kvs : List (Key × V)) | dT (kvs : List (List Key × V))
    | set (S : Int → Bool) (n : Nat)
    | ins (C dx : Addr) (fs : List (Str × V))
    | own (x : Addr)
    | xd (fs : List (Str × V))
    | met (f x : Addr)
    | rng (lo hi : Int)
    | frz (o : Obj) (u : HO)
    | tbl (ps : Array Value)
    | ext (φ : Heap → Prop)
abbrev Hp := Addr → Option HO
def upd (H : Hp) (a : Addr) (o : HO) : Hp := fun b => if b = a then some o else H b
theorem upd_same {H : Hp} {a : Addr} {o : HO} : upd H a o a = some o := by unfold upd; rw [if_pos rfl]
theorem upd_ne {H : Hp} {a b : Addr} {o : HO} (h : b ≠ a) : upd H a o b = H b := by unfold upd; rw [if_neg h]
theorem upd_upd {H : Hp} {a : Addr} {o u : HO} : upd (upd H a o) a u = upd H a u := by
  funext b; unfold upd; split <;> rfl
theorem ne_of {H : Hp} {a b : Addr} {o u : HO} (h : H a = some o) (h' : H b = some u) (d : o ≠ u) : a ≠ b := by
  intro e; subst e; rw [h] at h'; exact d (Option.some.inj h')
theorem ne_of_none {H : Hp} {a b : Addr} {o : HO} (h : H a = some o) (h' : H b = none) : a ≠ b := by
  intro e; subst e; rw [h] at h'; cases h'
section
variable (P : Program) (w : World)
def ObjOk (H : Hp) (h : Heap) (a : Addr) : HO → Prop
  | .lst xs => xs.length ≤ sizeLine ∧ ∃ (its : List Value) (n : Nat), Vals xs its ∧ h.get? a = some { cls := .type "list", data := .seq its.toArray n }
  | .tup xs => xs.length ≤ sizeLine ∧ ∃ its : List Value, Vals xs its ∧ IsTup h a its.toArray
  | .dK kvs => kvs.length ≤ sizeLine ∧ (a == sysModules) = false ∧ ∃ vs, KV kvs vs ∧ h.DictOf (mixKind P w) a vs
  | .dT kvs => kvs.length ≤ sizeLine ∧ (a == sysModules) = false ∧ ∃ xs : List (List Key × Addr × Value),
      Paired (fun (p : List Key × V) (q : List Key × Addr × Value) => p.1 = q.1 ∧ H q.2.1 = some (.tup (p.1.map kV)) ∧ RelV p.2 q.2.2) kvs xs ∧
      ∃ o es ep, h.get? a = some o ∧ o.ExactDict ∧ o.data = .dict es ep ∧ es.toList = xs.map (entryOfKey (tupleKind (mixKind P w))) ∧ (xs.map (·.1)).Nodup
  | .set S n => h.SetOf (intKind P w) a S n
  | .ins C dx fs => H dx = some (.own a) ∧ fs.length ≤ 1000 ∧ dx ≠ a ∧ h.get? a = some (PySem.W.instObj C dx) ∧
      ∃ mA, h.Ns1 dx mA ∧ (∀ f, RelO (fs.lookup f) (mA f)) ∧ PySem.Within mA (fs.map (·.1))
  | .own _ => ∃ o, h.get? a = some o
  | .xd fs => ∃ mA, h.Ns1 a mA ∧ ∀ f, RelO (fs.lookup f) (mA f)
  | .rng lo hi => ∃ t u v, h.get? a = some { cls := .type "range", data := .fields #[.int lo t, .int hi u, .int 1 v] }
  | .frz o u => h.get? a = some o ∧ ObjOk H h a u
  | .tbl ps => h.get? a = some { cls := .none, data := .fields ps }
  | .met f x => h.get? a = some (PySem.W.methodObj (.ref f) (.ref x))
  | .ext φ => φ h ∧ (∃ o, h.get? a = some o) ∧ ∀ h1 h2 : Heap, φ h1 → (∀ o, h1.get? a = some o → h2.get? a = some o) → φ h2
def HOk (H : Hp) (h : Heap) : Prop := ∀ a o, H a = some o → ObjOk P w H h a o
end
section
variable {P : Program} {w : World} {H H' : Hp} {h h' : Heap} {a : Addr} {o : HO}
theorem ObjOk.lt (x : ObjOk P w H h a o) : a < h.objs.size := by
  cases o with
  | lst xs => obtain ⟨_, _, _, _, e⟩ := x; exact Heap.lt_size e
  | tup xs => obtain ⟨_, _, _, p⟩ := x; exact p.lt
  | dK kvs => obtain ⟨_, _, _, _, o, _, _, e, _⟩ := x; exact Heap.lt_size e
  | dT kvs => obtain ⟨_, _, _, _, o, _, _, e, _⟩ := x; exact Heap.lt_size e
  | set S n => obtain ⟨o, _, _, _, e, _⟩ := x; exact Heap.lt_size e
  | ins C dx fs => obtain ⟨_, _, _, e, _⟩ := x; exact Heap.lt_size e
  | own y => obtain ⟨_, e⟩ := x; exact Heap.lt_size e
  | xd fs => obtain ⟨_, ⟨_, _, _, e, _⟩, _⟩ := x; exact Heap.lt_size e
  | rng lo hi => obtain ⟨_, _, _, e⟩ := x; exact Heap.lt_size e
  | frz ob u => obtain ⟨e, _⟩ := x; exact Heap.lt_size e
  | tbl ps => exact Heap.lt_size (show h.get? a = some _ from x)
  | met f y => exact Heap.lt_size (show h.get? a = some _ from x)
  | ext φ => obtain ⟨_, ⟨_, e⟩, _⟩ := x; exact Heap.lt_size e
theorem Paired.mapP {α β : Type} {F G : α → β → Prop} : ∀ {l₁ : List α} {l₂ : List β}, Paired F l₁ l₂ → (∀ a b, F a b → G a b) → Paired G l₁ l₂
  | _, _, .nil, _ => .nil
  | _, _, .cons r t, f => .cons (f _ _ r) (Paired.mapP t f)
theorem ObjOk.stay (x : ObjOk P w H h a o) (k : ∀ b u, (b = a ∨ H b = some (.own a)) → h.get? b = some u → h'.get? b = some u)
    (ho : ∀ b, H b = some (.own a) → H' b = some (.own a)) (ht : ∀ b xs, H b = some (.tup xs) → H' b = some (.tup xs)) : ObjOk P w H' h' a o := by
  induction o with
  | lst xs => obtain ⟨z, its, n, r, e⟩ := x; exact ⟨z, its, n, r, k _ _ (.inl rfl) e⟩
  | tup xs => obtain ⟨z, its, r, ob, e, c⟩ := x; exact ⟨z, its, r, ob, k _ _ (.inl rfl) e, c⟩
  | dK kvs => obtain ⟨z, y, vs, r, ob, es, ep, e, c⟩ := x; exact ⟨z, y, vs, r, ob, es, ep, k _ _ (.inl rfl) e, c⟩
  | dT kvs =>
    obtain ⟨z, y, xs, r, ob, es, ep, e, c⟩ := x
    exact ⟨z, y, xs, Paired.mapP r fun p q z => ⟨z.1, ht _ _ z.2.1, z.2.2⟩, ob, es, ep, k _ _ (.inl rfl) e, c⟩
  | set S n => obtain ⟨ob, es, ep, t, e, c⟩ := x; exact ⟨ob, es, ep, t, k _ _ (.inl rfl) e, c⟩
  | ins C dx fs =>
    obtain ⟨d, z, ne, e, mA, ⟨od, es, ep, e2, c⟩, r⟩ := x
    exact ⟨ho _ d, z, ne, k _ _ (.inl rfl) e, mA, ⟨od, es, ep, k _ _ (.inr d) e2, c⟩, r⟩
  | own y => obtain ⟨ob, e⟩ := x; exact ⟨ob, k _ _ (.inl rfl) e⟩
  | xd fs => obtain ⟨mA, ⟨od, es, ep, e, c⟩, r⟩ := x; exact ⟨mA, ⟨od, es, ep, k _ _ (.inl rfl) e, c⟩, r⟩
  | rng lo hi => obtain ⟨t, u, v, e⟩ := x; exact ⟨t, u, v, k _ _ (.inl rfl) e⟩
  | frz ob u ih => obtain ⟨e, q⟩ := x; exact ⟨k _ _ (.inl rfl) e, ih q⟩
  | tbl ps =>
    have e : h.get? a = some { cls := .none, data := .fields ps } := x
    show h'.get? a = some { cls := .none, data := .fields ps }
    exact k a _ (.inl rfl) e
  | met f y =>
    have e : h.get? a = some (PySem.W.methodObj (.ref f) (.ref y)) := x
    show h'.get? a = some (PySem.W.methodObj (.ref f) (.ref y))
    exact k a _ (.inl rfl) e
  | ext φ => obtain ⟨p, ⟨o, e⟩, st⟩ := x; exact ⟨st _ _ p fun o q => k _ _ (.inl rfl) q, ⟨o, k _ _ (.inl rfl) e⟩, st⟩
theorem HOk.lt (x : HOk P w H h) (e : H a = some o) : a < h.objs.size := (x a o e).lt
theorem HOk.fresh (x : HOk P w H h) (e : h.objs.size ≤ a) : H a = none := by
  cases q : H a with
  | none => rfl
  | some u => exact absurd (Nat.lt_of_lt_of_le (x.lt q) e) (Nat.lt_irrefl _)
theorem HOk.kept (x : HOk P w H h) (k : ∀ b u, h.get? b = some u → h'.get? b = some u) : HOk P w H h' := fun a o e =>
  (x a o e).stay (fun b u _ q => k b u q) (fun _ q => q) fun _ _ q => q
theorem HOk.laid (x : HOk P w H h) (k : ∀ b u, h.get? b = some u → h'.get? b = some u) (hp : h.objs.size ≤ a) (new : ObjOk P w (upd H a o) h' a o) : HOk P w (upd H a o) h' := fun b u e => by
  have hn := x.fresh hp
  by_cases hb : b = a
  · subst hb; rw [upd_same] at e; cases e; exact new
  · rw [upd_ne hb] at e
    exact (x b u e).stay (fun c v _ q => k c v q) (fun c q => by rw [upd_ne (ne_of_none q hn)]; exact q) fun c xs q => by rw [upd_ne (ne_of_none q hn)]; exact q
end
def Rd (H : Hp) (a : Addr) (u : HO) : Prop := H a = some u ∨ ∃ o, H a = some (.frz o u)
theorem Rd.of {H : Hp} {a : Addr} {u : HO} (h : H a = some u) : Rd H a u := .inl h
theorem Rd.ok {P : Program} {w : World} {H : Hp} {h : Heap} {a : Addr} {u : HO} (r : Rd H a u) (x : HOk P w H h) : ObjOk P w H h a u := by
  rcases r with r | ⟨o, r⟩
  · exact x a u r
  · obtain ⟨_, q⟩ := x a _ r
    exact q
def Mut : Option HO → Prop
  | some (.lst _) => True
  | some (.dK _) => True
  | some (.dT _) => True
  | some (.set _ _) => True
  | some (.ins _ _ _) => True
  | some (.ext _) => True
  | _ => False
section
variable {P : Program} {w : World} {H : Hp} {h h' : Heap} {x e : Addr} {o' : HO}
theorem HOk.write (ok : HOk P w H h) (mu : Mut (H x)) (he : e = x ∨ H e = some (.own x)) (k : ∀ b u, b ≠ e → h.get? b = some u → h'.get? b = some u) (heo : ∃ u, h'.get? e = some u)
    (new : ObjOk P w (upd H x o') h' x o') : HOk P w (upd H x o') h' := fun b u q => by
  have nown : ∀ c y, H c = some (.own y) → c ≠ x := fun c y r z => by subst z; rw [r] at mu; exact mu
  have ntup : ∀ c xs, H c = some (.tup xs) → c ≠ x := fun c xs r z => by subst z; rw [r] at mu; exact mu
  by_cases hb : b = x
  · subst hb; rw [upd_same] at q; cases q; exact new
  · rw [upd_ne hb] at q
    by_cases hbe : b = e
    · have q' : H b = some (.own x) := by
        rcases he with z | z
        · exact absurd (hbe.trans z) hb
        · rw [hbe]; exact z
      rw [q] at q'; cases q'
      obtain ⟨v, hv⟩ := heo
      exact ⟨v, by rw [hbe]; exact hv⟩
    · refine (ok b u q).stay (fun c v hc r => k c v ?_ r) (fun c r => by rw [upd_ne (nown c b r)]; exact r) fun c xs r => by rw [upd_ne (ntup c xs r)]; exact r
      rcases hc with rfl | hc
      · exact hbe
      · rintro rfl
        rcases he with z | z
        · exact nown c b hc z
        · rw [hc] at z; cases z; exact hb rfl
end
structure Un (fs ex : List Addr) (H H' : Hp) (h h' : Heap) : Prop where
  keep : ∀ b o, h.get? b = some o → H b = none → b ∉ fs → b ∉ ex → h'.get? b = some o
  slot : ∀ b o, h.get? b = some o → H b = none → b ∈ fs → b ∉ ex → ∃ sl, h'.get? b = some { o with slots := sl }
  free : ∀ b o, h.get? b = some o → H b = none → b ∉ ex → H' b = none
  there : ∀ b o, h.get? b = some o → b ∉ ex → ∃ o', h'.get? b = some o'
  tups : ∀ b xs, H b = some (.tup xs) → H' b = some (.tup xs)
  frzs : ∀ b o u, H b = some (.frz o u) → H' b = some (.frz o u)
  tbls : ∀ b ps, H b = some (.tbl ps) → ∃ more, H' b = some (.tbl (ps ++ more))
section
variable {fs fs' ex ex' : List Addr} {H H1 H2 : Hp} {h h1 h2 h' : Heap} {a x e : Addr} {o : HO}
theorem Un.any (u : Un fs ex H H1 h h1) {b : Addr} {ob : Obj} (q : h.get? b = some ob) (n : H b = none) (hx : b ∉ ex) : ∃ sl, h1.get? b = some { ob with slots := sl } := by
  by_cases hb : b ∈ fs
  · exact u.slot b ob q n hb hx
  · exact ⟨ob.slots, u.keep b ob q n hb hx⟩
theorem Un.trans (a : Un fs ex H H1 h h1) (b : Un fs ex H1 H2 h1 h2) : Un fs ex H H2 h h2 where
  keep := fun c ob q n hc hx => b.keep c ob (a.keep c ob q n hc hx) (a.free c ob q n hx) hc hx
  slot := fun c ob q n hc hx => by
    obtain ⟨sl, e1⟩ := a.slot c ob q n hc hx
    obtain ⟨sl', e2⟩ := b.slot c _ e1 (a.free c ob q n hx) hc hx
    exact ⟨sl', e2⟩
  free := fun c ob q n hx => by
    obtain ⟨o', e1⟩ := a.there c ob q hx
    exact b.free c o' e1 (a.free c ob q n hx) hx
  there := fun c ob q hx => by
    obtain ⟨o', e1⟩ := a.there c ob q hx
    exact b.there c o' e1 hx
  tups := fun c xs q => b.tups c xs (a.tups c xs q)
  frzs := fun c ob xs q => b.frzs c ob xs (a.frzs c ob xs q)
  tbls := fun c ps q => by
    obtain ⟨m1, e1⟩ := a.tbls c ps q
    obtain ⟨m2, e2⟩ := b.tbls c _ e1
    exact ⟨m1 ++ m2, by rw [e2, Array.append_assoc]⟩
theorem Un.kept (k : ∀ b u, h.get? b = some u → h'.get? b = some u) : Un fs ex H H h h' :=
  ⟨fun b ob q _ _ _ => k b ob q, fun b ob q _ _ _ => ⟨ob.slots, k b ob q⟩, fun _ _ _ n _ => n, fun b ob q _ => ⟨ob, k b ob q⟩, fun _ _ q => q, fun _ _ _ q => q, fun _ ps q => ⟨#[], by rw [q]; simp⟩⟩
theorem Un.refl : Un fs ex H H h h := Un.kept fun _ _ q => q
theorem Un.laid (k : ∀ b u, h.get? b = some u → h'.get? b = some u) (hp : h.objs.size ≤ a) (hn : H a = none) : Un fs ex H (upd H a o) h h' where
  keep := fun b u q _ _ _ => k b u q
  slot := fun b u q _ _ _ => ⟨u.slots, k b u q⟩
  free := fun b u q n _ => by rw [upd_ne (Nat.ne_of_lt (Nat.lt_of_lt_of_le (Heap.lt_size q) hp))]; exact n
  there := fun b u q _ => ⟨u, k b u q⟩
  tups := fun b xs q => by rw [upd_ne (ne_of_none q hn)]; exact q
  frzs := fun b u xs q => by rw [upd_ne (ne_of_none q hn)]; exact q
  tbls := fun b ps q => ⟨#[], by rw [upd_ne (ne_of_none q hn), q]; simp⟩
theorem Un.write (mu : Mut (H x)) (he : e = x ∨ H e = some (.own x)) (k : ∀ b u, b ≠ e → h.get? b = some u → h'.get? b = some u) (heo : ∃ u, h'.get? e = some u) : Un fs ex H (upd H x o) h h' := by
  have hx : ∀ b, H b = none → b ≠ x := fun b n z => by subst z; rw [n] at mu; exact mu
  have hb : ∀ b, H b = none → b ≠ e := fun b n z => by
    subst z
    rcases he with r | r
    · exact hx b n r
    · rw [n] at r; cases r
  have hm : ∀ b u, H b = some u → ¬ Mut (some u) → b ≠ x := fun b u q nm z => by subst z; rw [q] at mu; exact nm mu
  refine ⟨fun b u q n _ _ => k b u (hb b n) q, fun b u q n _ _ => ⟨u.slots, k b u (hb b n) q⟩, fun b u q n _ => by rw [upd_ne (hx b n)]; exact n, fun b u q _ => ?_,
    fun b xs q => by rw [upd_ne (hm b _ q fun z => z)]; exact q, fun b u xs q => by rw [upd_ne (hm b _ q fun z => z)]; exact q, fun b ps q => ⟨#[], by rw [upd_ne (hm b _ q fun z => z), q]; simp⟩⟩
  by_cases hbe : b = e
  · subst hbe; exact heo
  · exact ⟨u, k b u hbe q⟩
theorem Un.mono (u : Un fs ex H H1 h h1) (hs : ∀ b ∈ fs, b ∈ fs') (hx : ∀ b ∈ ex, b ∈ ex') : Un fs' ex' H H1 h h1 :=
  ⟨fun b ob q n hb he => u.keep b ob q n (fun z => hb (hs b z)) fun z => he (hx b z), fun _ _ q n _ he => u.any q n fun z => he (hx _ z), fun b ob q n he => u.free b ob q n fun z => he (hx b z), fun b ob q he => u.there b ob q fun z => he (hx b z), u.tups, u.frzs, u.tbls⟩
end
def trk (h : Heap) (H : Hp) : List Addr := (List.range h.objs.size).filter fun a => (H a).isSome
def hidT (h : Heap) (H : Hp) : Heap := PySem.W.hideAll h (trk h H)
theorem hidT_size (h : Heap) (H : Hp) : (hidT h H).objs.size = h.objs.size := PySem.W.hideAll_size _ _
theorem hidT_get {h : Heap} {H : Hp} {b : Addr} {o : Obj} (e : h.get? b = some o) (n : H b = none) : (hidT h H).get? b = some o :=
  PySem.W.hideAll_get _ e fun hm => by
    have q : (H b).isSome = true := (List.mem_filter.mp hm).2
    rw [n] at q; simp at q
theorem of_hidT {h : Heap} {H : Hp} {b : Addr} {o : Obj} (e : (hidT h H).get? b = some o) : h.get? b = some o ∧ H b = none := by
  have e' : h.get? b = some o := PySem.W.of_hideAll (trk h H) e
  refine ⟨e', ?_⟩
  cases q : H b with
  | none => rfl
  | some x =>
    have hm : b ∈ trk h H := List.mem_filter.mpr ⟨List.mem_range.mpr (Heap.lt_size e'), by simp [q]⟩
    have z : (hidT h H).get? b = none := PySem.W.hideAll_none (trk h H) hm
    rw [z] at e; cases e
def allNews (g h : Heap) (L : Addr) : List (Addr × Obj) := (List.range h.objs.size).filterMap fun a => if a = L ∨ (g.get? a).isSome = true then none else (h.get? a).map fun o => (a, o)
def rest (g h : Heap) (L d : Addr) : List (Addr × Obj) := (allNews g h L).filter fun p => decide (p.1 ≠ d)
end L2
namespace L2
open PySem PySem.Spec PyProof.Rows
structure Mod (K : PySem.W.Frag) (mg : Str → Option Value) (base : Heap) : Prop where
  kin : K.In base
  glob : base.Ns mainGlobals mg
  blt : ∃ mb, base.Ns builtinsNs mb ∧ ∀ x : Str, x ≠ "__name__" → mb x = bootBuiltins x
  nolimit : base.NoLimit
structure Cx where
  prog : Program
  w : World
  K : PySem.W.Frag
  mg : Str → Option Value
  base : Heap
  A : Around
  N : List Str
  s₀ : Shared
  H₀ : Hp
  env : Env
  outer : List Env
  stack : List Env
  ex : List Addr
  fn : Str → Bool
  calm : Bool
  pn : List (Addr × Obj)
  xe : Value → Shared → Prop
def frs (l : List Env) : List Addr := l.filterMap (·.frame)
abbrev Cx.fs (X : Cx) : List Addr := frs X.outer
def Vis (sc : Scope) (x : Str) : Prop := sc.names.lookup x = some .local ∨ sc.names.lookup x = some .cell ∨ sc.names.lookup x = some .free
def Loc (sc : Scope) (x : Str) : Prop := sc.names.lookup x = some .local ∨ sc.names.lookup x = some .cell
def Look (env : Env) (h : Heap) (m : Str → Option Value) (x : Str) (u : Value) : Prop :=
  (env.kindOf x = some .local ∧ m x = some u) ∨ ((env.kindOf x = some .cell ∨ env.kindOf x = some .free) ∧ ∃ c, env.cells.lookup x = some c ∧ h.IsCell c (some u))
structure Cx.Ok (X : Cx) : Prop where
  mod : Mod X.K X.mg X.base
  kind : X.env.scope.kind = .function
  glob : X.env.globals = mainGlobals
  blt : X.env.builtins = builtinsNs
  above : X.s₀.heap.objs.size ≤ X.env.locals
  inj : ∀ x y c, X.env.cells.lookup x = some c → X.env.cells.lookup y = some c → x = y
  has : ∀ x, (X.env.kindOf x = some .cell ∨ X.env.kindOf x = some .free) → ∃ c, X.env.cells.lookup x = some c
  cab : ∀ x c, X.fn x = true → X.env.cells.lookup x = some c → X.s₀.heap.objs.size ≤ c
  hd : X.calm = true → X.A.handled = none
  frames : X.A.frames = some X.stack
  stk : X.stack = X.outer ∨ (X.stack = X.env :: X.outer ∧ X.env.frame = some X.env.locals)
  exf : ∀ b ∈ X.ex, b ≠ X.env.locals ∧ ∀ x c, X.env.cells.lookup x = some c → c ≠ b
  bs : ∀ b o, X.base.get? b = some o → X.s₀.heap.get? b = some o ∧ X.H₀ b = none
  bsz : X.base.objs.size ≤ X.s₀.heap.objs.size
  noex : ∀ b o, X.base.get? b = some o → b ∉ X.ex
  exfs : ∀ b ∈ X.ex, b ∉ X.fs
  funs : X.s₀.heap.FunFrames X.base X.outer
  frf : ∀ b ∈ X.fs, X.H₀ b = none
structure Inv (X : Cx) (pins : List (Addr × Obj)) (σ : List (Option V)) (H : Hp) (s : Shared) : Prop where
  ok : X.Ok
  os : s.os = X.s₀.os
  bare : AllBare s.gens
  base : Un X.fs X.ex X.H₀ H X.s₀.heap s.heap
  loc : ∃ m, s.heap.Ns X.env.locals m ∧ ∀ (i : Nat) (x : Str) (v : V), X.N[i]? = some x → σ[i]? = some (some v) → Vis X.env.scope x → ∃ u, RelV v u ∧ Look X.env s.heap m x u
  cell : ∀ x c, X.env.cells.lookup x = some c → ∃ v, s.heap.IsCell c v
  free : H X.env.locals = none
  freeC : ∀ x c, X.env.cells.lookup x = some c → H c = none
  pin : ∀ p ∈ X.pn ++ pins, s.heap.get? p.1 = some p.2 ∧ H p.1 = none ∧ p.1 ≠ X.env.locals ∧ p.1 ∉ X.fs ∧ ∀ v, p.2.data ≠ .cell v
  hok : HOk X.prog X.w H s.heap
  len : σ.length = X.N.length
section
variable {X : Cx} {pins : List (Addr × Obj)} {σ : List (Option V)} {H H' : Hp} {s : Shared} {h' : Heap}
theorem Cx.Ok.nofr (ok : X.Ok) {b : Addr} {o : Obj} (e : X.base.get? b = some o) : b ∉ X.fs := fun hb => by
  have := (ok.funs.mem hb).1
  rw [e] at this; cases this
theorem Inv.bs (I : Inv X pins σ H s) : ∀ b o, X.base.get? b = some o → s.heap.get? b = some o ∧ H b = none := fun b o e =>
  ⟨I.base.keep b o (I.ok.bs b o e).1 (I.ok.bs b o e).2 (I.ok.nofr e) (I.ok.noex b o e), I.base.free b o (I.ok.bs b o e).1 (I.ok.bs b o e).2 (I.ok.noex b o e)⟩
theorem Inv.bk (I : Inv X pins σ H s) : ∀ b o, X.base.get? b = some o → s.heap.get? b = some o := fun b o e => (I.bs b o e).1
theorem Inv.mod (I : Inv X pins σ H s) : Mod X.K X.mg X.base := I.ok.mod
theorem Inv.kIn (I : Inv X pins σ H s) : X.K.In s.heap := I.ok.mod.kin.keeps I.bk
theorem Inv.nolimit (I : Inv X pins σ H s) : s.heap.NoLimit := I.ok.mod.nolimit.keeps I.bk
theorem Inv.fr (I : Inv X pins σ H s) : ∃ m, Fr X.base X.env.locals s.heap m :=
  let ⟨m, hn, _⟩ := I.loc
  ⟨m, hn, I.bk, Nat.le_trans I.ok.bsz I.ok.above⟩
theorem Inv.lt (I : Inv X pins σ H s) : X.env.locals < s.heap.objs.size := let ⟨_, hn, _⟩ := I.loc; hn.lt
theorem Inv.sz (I : Inv X pins σ H s) : X.s₀.heap.objs.size ≤ s.heap.objs.size := Nat.le_trans I.ok.above (Nat.le_of_lt I.lt)
theorem Inv.nofs (I : Inv X pins σ H s) {a : Addr} (h : s.heap.objs.size ≤ a) : a ∉ X.fs := fun hb => by
  obtain ⟨_, o, ho, _⟩ := I.ok.funs.mem hb
  exact absurd (Nat.lt_of_lt_of_le (Heap.lt_size ho) (Nat.le_trans I.sz h)) (Nat.lt_irrefl _)
theorem Inv.cne (I : Inv X pins σ H s) : ∀ x c, X.env.cells.lookup x = some c → c ≠ X.env.locals := fun x c e z => by
  obtain ⟨v, o, ho, hd⟩ := I.cell x c e
  obtain ⟨m, ⟨o', es, ep, ho', hd', _⟩, _⟩ := I.loc
  rw [z, ho'] at ho; cases ho; rw [hd'] at hd; cases hd
theorem Inv.funs (I : Inv X pins σ H s) : s.heap.FunFrames X.base X.outer := by
  have all : ∀ (l : List Env), (∀ b ∈ frs l, b ∈ X.fs) → X.s₀.heap.FunFrames X.base l → s.heap.FunFrames X.base l := by
    intro l
    induction l with
    | nil => intro _ _; trivial
    | cons env r ih =>
      intro hs hl
      obtain ⟨hk, ⟨L, o, hf, hn, ho, hd⟩, hr⟩ := hl
      have hL : L ∈ X.fs := hs L (by unfold frs; rw [List.filterMap_cons, hf]; exact List.mem_cons_self)
      obtain ⟨sl, e⟩ := I.base.slot L o ho (I.ok.frf L hL) hL fun z => I.ok.exfs L z hL
      exact ⟨hk, ⟨L, _, hf, hn, e, hd⟩, ih (fun b hb => hs b (by unfold frs; rw [List.filterMap_cons, hf]; exact List.mem_cons_of_mem _ hb)) hr⟩
  exact all X.outer (fun _ hb => hb) I.ok.funs
theorem Inv.stack (I : Inv X pins σ H s) : s.heap.FunFrames X.base X.stack := by
  rcases I.ok.stk with e | ⟨e, hf⟩
  · rw [e]; exact I.funs
  · rw [e]
    obtain ⟨m, hn, _⟩ := I.loc
    refine .cons (by rw [I.ok.kind]; decide) hf hn ?_ I.funs
    exact Heap.get?_none_of_le (Nat.le_trans I.ok.bsz I.ok.above)
theorem Inv.stkSub (I : Inv X pins σ H s) : ∀ b ∈ frs X.stack, b ∈ X.env.locals :: X.fs := fun b hb => by
  rcases I.ok.stk with e | ⟨e, hf⟩
  · rw [e] at hb; exact List.mem_cons_of_mem _ hb
  · rw [e] at hb
    unfold frs at hb
    rw [List.filterMap_cons, hf] at hb
    exact hb
theorem Inv.stkFree (I : Inv X pins σ H s) : ∀ b ∈ frs X.stack, H b = none := fun b hb => by
  rcases List.mem_cons.mp (I.stkSub b hb) with e | hb
  · rw [e]; exact I.free
  · obtain ⟨_, o, ho, _⟩ := I.ok.funs.mem hb
    exact I.base.free b o ho (I.ok.frf b hb) fun z => I.ok.exfs b z hb
theorem Inv.step {g' : Array GenState} {t' : Nat} {d' : Drawn} {ch : List Addr} (I : Inv X pins σ H s)
    (hch : ∀ b ∈ ch, (b ∈ X.ex ∨ X.s₀.heap.objs.size ≤ b) ∧ b ≠ X.env.locals ∧ (∀ x c, X.env.cells.lookup x = some c → c ≠ b) ∧ ∀ p ∈ X.pn ++ pins, p.1 ≠ b)
    (keep : ∀ b o, b ≠ X.env.locals → b ∉ X.fs → b ∉ ch → s.heap.get? b = some o → H b = none → h'.get? b = some o)
    (slot : ∀ b o, b ≠ X.env.locals → b ∈ X.fs → b ∉ ch → s.heap.get? b = some o → H b = none → ∃ sl, h'.get? b = some { o with slots := sl }) (free : ∀ b o, b ∉ ch → s.heap.get? b = some o → H b = none → H' b = none)
    (there : ∀ b o, b ∉ ch → s.heap.get? b = some o → ∃ o', h'.get? b = some o')
    (tups : ∀ b xs, H b = some (.tup xs) → H' b = some (.tup xs)) (frzs : ∀ b o u, H b = some (.frz o u) → H' b = some (.frz o u)) (tbls : ∀ b ps, H b = some (.tbl ps) → ∃ more, H' b = some (.tbl (ps ++ more)))
    (ns : ∀ m, s.heap.Ns X.env.locals m → h'.Ns X.env.locals m) (hok : HOk X.prog X.w H' h') (hg : AllBare g') :
    Inv X pins σ H' { s with heap := h', gens := g', drawn := d', toks := t' } := by
  have neL : ∀ b o, X.s₀.heap.get? b = some o → b ≠ X.env.locals := fun b o e => Nat.ne_of_lt (Nat.lt_of_lt_of_le (Heap.lt_size e) I.ok.above)
  have neC : ∀ b o, X.s₀.heap.get? b = some o → b ∉ X.ex → b ∉ ch := fun b o e hx hb => by
    rcases (hch b hb).1 with z | z
    · exact hx z
    · exact absurd (Nat.lt_of_lt_of_le (Heap.lt_size e) z) (Nat.lt_irrefl _)
  have cellK : ∀ x c, X.env.cells.lookup x = some c → ∀ v, s.heap.IsCell c v → h'.IsCell c v := fun x c e v ⟨o, ho, hd⟩ => by
    have nch : c ∉ ch := fun z => (hch c z).2.2.1 x c e rfl
    by_cases hc : c ∈ X.fs
    · obtain ⟨sl, q⟩ := slot c o (I.cne x c e) hc nch ho (I.freeC x c e)
      exact ⟨_, q, hd⟩
    · exact ⟨o, keep c o (I.cne x c e) hc nch ho (I.freeC x c e), hd⟩
  refine ⟨I.ok, I.os, hg, ⟨fun b o e n hb hx => ?_, fun b o e n hb hx => ?_, fun b o e n hx => ?_, fun b o e hx => ?_, fun b xs e => tups b xs (I.base.tups b xs e), fun b o xs e => frzs b o xs (I.base.frzs b o xs e), fun b ps e => ?_⟩, ?_, fun x c e => ?_, ?_, fun x c e => ?_, fun p hp => ?_, hok, I.len⟩
  · exact keep b o (neL b o e) hb (neC b o e hx) (I.base.keep b o e n hb hx) (I.base.free b o e n hx)
  · obtain ⟨sl, e1⟩ := I.base.slot b o e n hb hx
    obtain ⟨sl', e2⟩ := slot b _ (neL b o e) hb (neC b o e hx) e1 (I.base.free b o e n hx)
    exact ⟨sl', e2⟩
  · obtain ⟨o', e1⟩ := I.base.there b o e hx
    exact free b o' (neC b o e hx) e1 (I.base.free b o e n hx)
  · obtain ⟨o', e1⟩ := I.base.there b o e hx
    exact there b o' (neC b o e hx) e1
  · obtain ⟨m1, e1⟩ := I.base.tbls b ps e
    obtain ⟨m2, e2⟩ := tbls b _ e1
    exact ⟨m1 ++ m2, by rw [e2, Array.append_assoc]⟩
  · obtain ⟨m, hn, hl⟩ := I.loc
    refine ⟨m, ns m hn, fun i x v e1 e2 e3 => ?_⟩
    obtain ⟨u, r, l⟩ := hl i x v e1 e2 e3
    refine ⟨u, r, ?_⟩
    rcases l with l | ⟨k, c, e, z⟩
    · exact .inl l
    · exact .inr ⟨k, c, e, cellK x c e _ z⟩
  · obtain ⟨v, z⟩ := I.cell x c e
    exact ⟨v, cellK x c e v z⟩
  · obtain ⟨m, ⟨o, _, _, ho, _⟩, _⟩ := I.loc
    exact free _ o (fun z => (hch _ z).2.1 rfl) ho I.free
  · obtain ⟨v, o, ho, hd⟩ := I.cell x c e
    exact free c o (fun z => (hch c z).2.2.1 x c e rfl) ho (I.freeC x c e)
  · obtain ⟨e, n, ne, nf, d⟩ := I.pin p hp
    have nch : p.1 ∉ ch := fun z => (hch p.1 z).2.2.2 p hp rfl
    exact ⟨keep p.1 p.2 ne nf nch e n, free p.1 p.2 nch e n, ne, nf, d⟩
theorem Inv.un {t' : Nat} (I : Inv X pins σ H s) (u : Un X.fs [] H H' s.heap h') (hok : HOk X.prog X.w H' h') : Inv X pins σ H' { s with heap := h', toks := t' } := by
  obtain ⟨m, ⟨o, es, ep, ho, r⟩, _⟩ := id I.loc
  obtain ⟨sl, hL⟩ := u.any ho I.free (by simp)
  exact I.step (g' := s.gens) (d' := s.drawn) (ch := []) (fun _ z => nomatch z) (fun b o _ hb _ e n => u.keep b o e n hb (by simp)) (fun b o _ hb _ e n => u.slot b o e n hb (by simp)) (fun b o _ e n => u.free b o e n (by simp)) (fun b o _ e => u.there b o e (by simp)) u.tups u.frzs u.tbls (fun m' hm => by
    obtain ⟨o', es', ep', ho', r'⟩ := hm
    rw [ho] at ho'; cases ho'
    exact ⟨_, es', ep', hL, r'⟩) hok I.bare
theorem Inv.call {g' : Array GenState} {t' : Nat} {d' : Drawn} {ch : List Addr} (I : Inv X pins σ H s) (u : Un (frs X.stack) ch H H' s.heap h') (hok : HOk X.prog X.w H' h') (hg : AllBare g')
    (hch : ∀ b ∈ ch, (b ∈ X.ex ∨ X.s₀.heap.objs.size ≤ b) ∧ b ≠ X.env.locals ∧ (∀ x c, X.env.cells.lookup x = some c → c ≠ b) ∧ ∀ p ∈ X.pn ++ pins, p.1 ≠ b) :
    Inv X pins σ H' { s with heap := h', gens := g', drawn := d', toks := t' } := by
  obtain ⟨m, ⟨o, es, ep, ho, r⟩, _⟩ := id I.loc
  obtain ⟨sl, hL⟩ := u.any ho I.free fun z => (hch _ z).2.1 rfl
  exact I.step (ch := ch) hch (fun b o hL hb hc e n => u.keep b o e n (fun z => (List.mem_cons.mp (I.stkSub b z)).elim hL hb) hc) (fun b o _ _ hc e n => u.any e n hc) (fun b o hc e n => u.free b o e n hc) (fun b o hc e => u.there b o e hc) u.tups u.frzs u.tbls (fun m' hm => by
    obtain ⟨o', es', ep', ho', r'⟩ := hm
    rw [ho] at ho'; cases ho'
    exact ⟨_, es', ep', hL, r'⟩) hok hg
theorem Inv.turned {t' : Nat} {it : Addr} (I : Inv X pins σ H s) (k : ∀ b o, b ≠ it → s.heap.get? b = some o → h'.get? b = some o) (hn : H it = none) (hL : it ≠ X.env.locals)
    (h1 : it ∈ X.ex ∨ X.s₀.heap.objs.size ≤ it) (h2 : ∀ x c, X.env.cells.lookup x = some c → c ≠ it) (h3 : ∀ p ∈ X.pn ++ pins, p.1 ≠ it) : Inv X pins σ H { s with heap := h', toks := t' } := by
  have nit : ∀ b u, H b = some u → b ≠ it := fun b u e z => by rw [z, hn] at e; cases e
  refine I.step (g' := s.gens) (d' := s.drawn) (ch := [it]) (fun b hb => ?_) (fun b o _ _ hc e _ => k b o (fun z => hc (by simp [z])) e) (fun b o _ _ hc e _ => ⟨o.slots, k b o (fun z => hc (by simp [z])) e⟩) (fun _ _ _ _ n => n)
    (fun b o hc e => ⟨o, k b o (fun z => hc (by simp [z])) e⟩) (fun _ _ e => e) (fun _ _ _ e => e) (fun b ps e => ⟨#[], by rw [e]; simp⟩) (fun m hm => ?_) (fun b u e => ?_) I.bare
  · have e : b = it := by simpa using hb
    subst e
    exact ⟨h1, hL, h2, h3⟩
  · obtain ⟨o, es, ep, ho, r⟩ := hm
    exact ⟨o, es, ep, k _ o (Ne.symm hL) ho, r⟩
  · refine (I.hok b u e).stay (fun c v hc q => k c v ?_ q) (fun _ q => q) fun _ _ q => q
    rcases hc with z | z
    · rw [z]; exact nit b u e
    · exact nit c _ z
theorem Inv.tok (I : Inv X pins σ H s) (t : Nat) : Inv X pins σ H { s with toks := t } := I.un (h' := s.heap) (t' := t) Un.refl I.hok
theorem Inv.kept {t' : Nat} (I : Inv X pins σ H s) (k : ∀ b u, s.heap.get? b = some u → h'.get? b = some u) : Inv X pins σ H { s with heap := h', toks := t' } := I.un (Un.kept k) (I.hok.kept k)
theorem Inv.laid {a : Addr} {o : HO} {t' : Nat} (I : Inv X pins σ H s) (k : ∀ b u, s.heap.get? b = some u → h'.get? b = some u) (hp : s.heap.objs.size ≤ a) (new : ObjOk X.prog X.w (upd H a o) h' a o) :
    Inv X pins σ (upd H a o) { s with heap := h', toks := t' } := I.un (Un.laid k hp (I.hok.fresh hp)) (I.hok.laid k hp new)
theorem Inv.write {x e : Addr} {o : HO} {t' : Nat} (I : Inv X pins σ H s) (mu : Mut (H x)) (he : e = x ∨ H e = some (.own x)) (k : ∀ b u, b ≠ e → s.heap.get? b = some u → h'.get? b = some u) (heo : ∃ u, h'.get? e = some u)
    (new : ObjOk X.prog X.w (upd H x o) h' x o) : Inv X pins σ (upd H x o) { s with heap := h', toks := t' } := I.un (Un.write mu he k heo) (I.hok.write mu he k heo new)
theorem Inv.weak {σ' : List (Option V)} (I : Inv X pins σ H s) (hl : σ'.length = σ.length) (w : ∀ (i : Nat) v, σ'[i]? = some (some v) → σ[i]? = some (some v)) : Inv X pins σ' H s :=
  ⟨I.ok, I.os, I.bare, I.base, let ⟨m, hn, hl'⟩ := I.loc; ⟨m, hn, fun i x v e1 e2 e3 => hl' i x v e1 (w i v e2) e3⟩, I.cell, I.free, I.freeC, I.pin, I.hok, hl.trans I.len⟩
theorem Inv.pins_of {pins' : List (Addr × Obj)} (I : Inv X pins σ H s) (h : ∀ p ∈ pins', s.heap.get? p.1 = some p.2 ∧ H p.1 = none ∧ p.1 ≠ X.env.locals ∧ p.1 ∉ X.fs ∧ ∀ v, p.2.data ≠ .cell v) : Inv X pins' σ H s :=
  ⟨I.ok, I.os, I.bare, I.base, I.loc, I.cell, I.free, I.freeC, fun p hp => (List.mem_append.mp hp).elim (fun z => I.pin p (List.mem_append_left _ z)) (h p), I.hok, I.len⟩
theorem nodup_ix {N : List Str} (hN : N.Nodup) {i j : Nat} {x : Str} (a : N[i]? = some x) (b : N[j]? = some x) : i = j := by
  obtain ⟨h1, e1⟩ := List.getElem?_eq_some_iff.mp a
  obtain ⟨h2, e2⟩ := List.getElem?_eq_some_iff.mp b
  exact (List.getElem_inj hN).mp (e1.trans e2.symm)
theorem store_ok2 {M : Model} {A : Around} {E : Value → Shared → Prop} {i : Nat} {x : Str} {v : V} {u : Value} {Q : Unit → Shared → Prop} (I : Inv X pins σ H s) (hN : X.N.Nodup) (hi : X.N[i]? = some x) (hx : Loc X.env.scope x) (r : RelV v u)
    (h : ∀ s', Inv X pins (σ.set i (some v)) H s' → (∃ a, Heap.SameBut a s.heap s'.heap ∧ (a = X.env.locals ∨ X.env.cells.lookup x = some a)) → Q () s') (hf : X.fn x = true ∨ X.env.scope.names.lookup x = some .local := by first | exact .inl rfl | exact .inr rfl | assumption) : wpAny M A (storeName X.env x u) Q E s := by
  obtain ⟨m, hn, hl⟩ := id I.loc
  have hcls : (X.env.scope.kind == .class || (X.env.scope.kind == .module && X.env.locals != X.env.globals)) = false := by rw [I.ok.kind]; rfl
  have hiσ : i < σ.length := by rw [I.len]; exact (List.getElem?_eq_some_iff.mp hi).1
  have cne := I.cne
  have tracked : ∀ {a : Addr} {h' : Heap}, (∃ o, s.heap.get? a = some o ∧ H a = none) → Heap.SameBut a s.heap h' → HOk X.prog X.w H h' := fun {a h'} ha hs b ob e => by
    obtain ⟨_, _, hfree⟩ := ha
    refine (I.hok b ob e).stay (fun c w' hc q => (hs.2 c ?_).trans q) (fun _ q => q) fun _ _ q => q
    rintro rfl
    rcases hc with rfl | hc
    · rw [hfree] at e; cases e
    · rw [hfree] at hc; cases hc
  rcases hx with hk | hk
  · refine wpAny_storeName_local hk hn (fun h' hn' hs => ?_) hcls
    obtain ⟨oL, _, _, hoL, _⟩ := id hn
    refine h _ ⟨I.ok, I.os, I.bare, ⟨fun b o e n hb hx => ?_, fun b o e n hb hx => ?_, I.base.free, fun b o e hx => ?_, I.base.tups, I.base.frzs, I.base.tbls⟩, ⟨_, hn', fun j y v' e1 e2 e3 => ?_⟩, fun y c e => ?_, I.free, I.freeC, fun p hp => ?_, tracked ⟨oL, hoL, I.free⟩ hs, by simpa using I.len⟩ ⟨_, hs, .inl rfl⟩
    · exact (hs.2 b (Nat.ne_of_lt (Nat.lt_of_lt_of_le (Heap.lt_size e) I.ok.above))).trans (I.base.keep b o e n hb hx)
    · obtain ⟨sl, e1⟩ := I.base.slot b o e n hb hx
      exact ⟨sl, (hs.2 b (Nat.ne_of_lt (Nat.lt_of_lt_of_le (Heap.lt_size e) I.ok.above))).trans e1⟩
    · obtain ⟨o', e1⟩ := I.base.there b o e hx
      exact ⟨o', (hs.2 b (Nat.ne_of_lt (Nat.lt_of_lt_of_le (Heap.lt_size e) I.ok.above))).trans e1⟩
    · by_cases hj : j = i
      · subst hj
        rw [hi] at e1; cases e1
        rw [List.getElem?_set_self hiσ] at e2
        cases e2
        exact ⟨u, r, .inl ⟨hk, by simp⟩⟩
      · rw [List.getElem?_set_ne (Ne.symm hj)] at e2
        obtain ⟨u', r', q⟩ := hl j y v' e1 e2 e3
        refine ⟨u', r', ?_⟩
        rcases q with ⟨k, e⟩ | ⟨k, c, e, z⟩
        · refine .inl ⟨k, ?_⟩
          have : y ≠ x := fun e => hj (nodup_ix hN e1 (e ▸ hi))
          simp [this, e]
        · exact .inr ⟨k, c, e, z.sameBut hs (cne y c e)⟩
    · obtain ⟨w', z⟩ := I.cell y c e
      exact ⟨w', z.sameBut hs (cne y c e)⟩
    · obtain ⟨e, n, ne, nf, d⟩ := I.pin p hp
      exact ⟨(hs.2 p.1 ne).trans e, n, ne, nf, d⟩
  · have hfn : X.fn x = true := by
      rcases hf with z | z
      · exact z
      · rw [z] at hk; cases hk
    obtain ⟨c, hc⟩ := I.ok.has x (.inl hk)
    obtain ⟨w', z⟩ := I.cell x c hc
    refine wpAny_storeName_cell I.ok.kind hk hc z (fun h' hc' hs => ?_)
    obtain ⟨oc, hoc, hocd⟩ := id z
    refine h { s with heap := h' } ⟨I.ok, I.os, I.bare, ⟨fun b o e n hb hx => ?_, fun b o e n hb hx => ?_, I.base.free, fun b o e hx => ?_, I.base.tups, I.base.frzs, I.base.tbls⟩, ⟨m, hn.sameBut hs (Ne.symm (cne x c hc)), fun j y v' e1 e2 e3 => ?_⟩, fun y c' e => ?_, I.free, I.freeC, fun p hp => ?_, tracked ⟨oc, hoc, I.freeC x c hc⟩ hs, by simpa using I.len⟩ ⟨c, hs, .inr hc⟩
    · exact (hs.2 b (Nat.ne_of_lt (Nat.lt_of_lt_of_le (Heap.lt_size e) (I.ok.cab x c hfn hc)))).trans (I.base.keep b o e n hb hx)
    · obtain ⟨sl, e1⟩ := I.base.slot b o e n hb hx
      exact ⟨sl, (hs.2 b (Nat.ne_of_lt (Nat.lt_of_lt_of_le (Heap.lt_size e) (I.ok.cab x c hfn hc)))).trans e1⟩
    · obtain ⟨o', e1⟩ := I.base.there b o e hx
      exact ⟨o', (hs.2 b (Nat.ne_of_lt (Nat.lt_of_lt_of_le (Heap.lt_size e) (I.ok.cab x c hfn hc)))).trans e1⟩
    · by_cases hj : j = i
      · subst hj
        rw [hi] at e1; cases e1
        rw [List.getElem?_set_self hiσ] at e2
        cases e2
        exact ⟨u, r, .inr ⟨.inl hk, c, hc, hc'⟩⟩
      · rw [List.getElem?_set_ne (Ne.symm hj)] at e2
        obtain ⟨u', r', q⟩ := hl j y v' e1 e2 e3
        refine ⟨u', r', ?_⟩
        rcases q with q | ⟨k, c', e, z'⟩
        · exact .inl q
        · refine .inr ⟨k, c', e, z'.sameBut hs ?_⟩
          rintro rfl
          exact hj (nodup_ix hN e1 (I.ok.inj _ _ _ e hc ▸ hi))
    · by_cases hcc : c' = c
      · subst hcc; exact ⟨_, hc'⟩
      · obtain ⟨w2, z2⟩ := I.cell y c' e
        exact ⟨w2, z2.sameBut hs hcc⟩
    · obtain ⟨e, n, ne, nf, d⟩ := I.pin p hp
      refine ⟨(hs.2 p.1 ?_).trans e, n, ne, nf, d⟩
      intro q
      rw [q, hoc] at e
      have q' : oc = p.2 := Option.some.inj e
      exact d w' (by rw [← q']; exact hocd)
theorem store_ok {M : Model} {A : Around} {E : Value → Shared → Prop} {i : Nat} {x : Str} {v : V} {u : Value} {Q : Unit → Shared → Prop} (I : Inv X pins σ H s) (hN : X.N.Nodup) (hi : X.N[i]? = some x) (hx : Loc X.env.scope x) (r : RelV v u)
    (h : ∀ s', Inv X pins (σ.set i (some v)) H s' → Q () s') (hf : X.fn x = true ∨ X.env.scope.names.lookup x = some .local := by first | exact .inl rfl | exact .inr rfl | assumption) : wpAny M A (storeName X.env x u) Q E s :=
  store_ok2 I hN hi hx r (fun s' I' _ => h s' I') hf
theorem Inv.call' {s' : Shared} {ch : List Addr} (I : Inv X pins σ H s) (ho : s'.os = s.os) (u : Un (frs X.stack) ch H H' s.heap s'.heap) (hok : HOk X.prog X.w H' s'.heap) (hg : AllBare s'.gens)
    (hch : ∀ b ∈ ch, (b ∈ X.ex ∨ X.s₀.heap.objs.size ≤ b) ∧ b ≠ X.env.locals ∧ (∀ x c, X.env.cells.lookup x = some c → c ≠ b) ∧ ∀ p ∈ X.pn ++ pins, p.1 ≠ b) : Inv X pins σ H' s' := by
  obtain ⟨h', g', d', t', o'⟩ := s'
  have e : o' = s.os := ho
  subst e
  exact I.call (g' := g') (t' := t') (d' := d') u hok hg hch
end
abbrev XK := Value → Option Addr → Hp → Prop
abbrev St := List (Option V)
abbrev VK := V → Hp → Prop
abbrev TE := St → Hp → VK → Prop
abbrev TT := St → Hp → (Bool → Hp → Prop) → Prop
abbrev TA := St → Hp → (List V → Hp → Prop) → Prop
structure Ends where
  nx : St → Hp → Prop
  rt : VK
  bk : St → Hp → Prop := fun _ _ => False
  ct : St → Hp → Prop := fun _ _ => False
abbrev TS := Ends → St → Hp → Prop
def EP (X : Cx) (pins : List (Addr × Obj)) (σ : St) (Q : VK) (u : Value) (s' : Shared) : Prop := ∃ v H', Inv X pins σ H' s' ∧ RelV v u ∧ Q v H'
def TP (X : Cx) (pins : List (Addr × Obj)) (σ : St) (Q : Bool → Hp → Prop) (b : Bool) (s' : Shared) : Prop := ∃ H', Inv X pins σ H' s' ∧ Q b H'
def AP (X : Cx) (pins : List (Addr × Obj)) (σ : St) (Q : List V → Hp → Prop) (us : List Value) (s' : Shared) : Prop := ∃ vs H', Inv X pins σ H' s' ∧ Vals vs us ∧ Q vs H'
def SP (X : Cx) (pins : List (Addr × Obj)) (D : Ends) (f : Flow) (s' : Shared) : Prop :=
  match f with
  | .next => ∃ σ' H', Inv X pins σ' H' s' ∧ D.nx σ' H'
  | .brk => ∃ σ' H', Inv X pins σ' H' s' ∧ D.bk σ' H'
  | .cont => ∃ σ' H', Inv X pins σ' H' s' ∧ D.ct σ' H'
  | .ret u => ∃ v σ' H', Inv X pins σ' H' s' ∧ RelV v u ∧ D.rt v H'
def PE (X : Cx) (e : Expr) (t : TE) : Prop :=
  ∀ (pins : List (Addr × Obj)) (s : Shared) (σ : St) (H : Hp) (Q : VK), Inv X pins σ H s → t σ H Q → wpAny (model X.prog X.w) X.A (eval e X.env) (EP X pins σ Q) X.xe s
def PT (X : Cx) (e : Expr) (t : TT) : Prop :=
  ∀ (pins : List (Addr × Obj)) (s : Shared) (σ : St) (H : Hp) (Q : Bool → Hp → Prop), Inv X pins σ H s → t σ H Q → wpAny (model X.prog X.w) X.A (isTrue e X.env (eval e X.env)) (TP X pins σ Q) X.xe s
def PW (X : Cx) (e : Expr) (t : TT) : Prop :=
  ∀ (whole : Sem Value) (pins : List (Addr × Obj)) (s : Shared) (σ : St) (H : Hp) (Q : Bool → Hp → Prop), Inv X pins σ H s → t σ H Q → wpAny (model X.prog X.w) X.A (isTrue e X.env whole) (TP X pins σ Q) X.xe s
theorem PW.pt {X : Cx} {e : Expr} {t : TT} (h : PW X e t) : PT X e t := h _
def PA (X : Cx) (es : List Expr) (t : TA) : Prop :=
  ∀ (pos : Pos) (pins : List (Addr × Obj)) (s : Shared) (σ : St) (H : Hp) (Q : List V → Hp → Prop), Inv X pins σ H s → t σ H Q → wpAny (model X.prog X.w) X.A (spliced (backTo pos (starEach es X.env))) (AP X pins σ Q) X.xe s
def PS (X : Cx) (st : Stmt) (t : TS) : Prop :=
  ∀ (pins : List (Addr × Obj)) (s : Shared) (σ : St) (H : Hp) (D : Ends), Inv X pins σ H s → t D σ H → wpAny (model X.prog X.w) X.A (exec st X.env) (SP X pins D) X.xe s
def PSs (X : Cx) (st : List Stmt) (t : TS) : Prop :=
  ∀ (pins : List (Addr × Obj)) (s : Shared) (σ : St) (H : Hp) (D : Ends), Inv X pins σ H s → t D σ H → wpAny (model X.prog X.w) X.A (execs st X.env) (SP X pins D) X.xe s
theorem thn {α : Type} {t : Sem α} {Q Q' : α → Shared → Prop} {M : Model} {A : Around} {E : Value → Shared → Prop} {s : Shared} (h : wpAny M A t Q E s) (hQ : ∀ a s, Q a s → Q' a s) : wpAny M A t Q' E s := wpAny_mono h hQ fun _ _ x => x
end L2
namespace L2
open PySem PySem.Spec PyProof.Rows
section
variable {X : Cx}
theorem bin {a b : Expr} {ta tb : TE} (ha : PE X a ta) (hb : PE X b tb) {pins : List (Addr × Obj)} {s : Shared} {σ : St} {H : Hp} {R : V → V → Hp → Prop} (I : Inv X pins σ H s) (h : ta σ H fun x H1 => tb σ H1 fun y H2 => R x y H2)
    {α : Type} {Q : α → Shared → Prop} {f : Value → Value → Sem α}
    (hf : ∀ v u s2 x y H2, Inv X pins σ H2 s2 → RelV x v → RelV y u → R x y H2 → wpAny (model X.prog X.w) X.A (f v u) Q X.xe s2) :
    wpAny (model X.prog X.w) X.A (eval a X.env) (fun v s₁ => wpAny (model X.prog X.w) X.A (eval b X.env) (fun u s₂ => wpAny (model X.prog X.w) X.A (f v u) Q X.xe s₂) X.xe s₁) X.xe s := by
  refine thn (ha pins s σ H _ I h) fun v s1 ⟨x, H1, I1, r1, q1⟩ => ?_
  refine thn (hb pins s1 σ H1 _ I1 q1) fun u s2 ⟨y, H2, I2, r2, q2⟩ => ?_
  exact hf v u s2 x y H2 I2 r1 r2 q2
def tVar (i : Nat) : TE := fun σ H Q => ∃ v, σ[i]? = some (some v) ∧ Q v H
def tC (v : V) : TE := fun _ H Q => Q v H
theorem pe_var {i : Nat} {x : Str} {pos : Pos} (hN : X.N[i]? = some x) (hv : Vis X.env.scope x) (hd : (x == ("__debug__" : Str)) = false := by decide) (hcd : (x == ("__classdict__" : Str)) = false := by decide) : PE X (.Name x pos) (tVar i) := by
  intro pins s σ H Q I h
  obtain ⟨v, e, h⟩ := h
  obtain ⟨m, hn, hl⟩ := I.loc
  obtain ⟨u, r, l⟩ := hl i x v hN e hv
  have fin : EP X pins σ Q u s := ⟨v, H, I, r, h⟩
  rcases l with ⟨hk, hm⟩ | ⟨hk, c, hc, hcell⟩
  · exact wpAny_Name (wpAny_loadName_local I.ok.kind hk hn hm fin) hd
  · rcases hk with hk | hk
    · exact wpAny_Name (wpAny_loadName_cell I.ok.kind hk hc hcell fin) hd
    · exact wpAny_Name (wpAny_loadName_free I.ok.kind hk hc hcell fin hcd) hd
theorem pe_int {i j pos} : PE X (.Constant (.int i) j pos) (tC (.int i)) := fun _ _ _ H _ I h => wpAny_Constant_int ⟨.int i, H, I.tok _, ⟨_, rfl⟩, h⟩
theorem pe_bl {b j pos} : PE X (.Constant (.bool b) j pos) (tC (.bl b)) := fun _ _ _ H _ I h => Constant_bool ⟨.bl b, H, I, rfl, h⟩
theorem pe_non {j pos} : PE X (.Constant .none j pos) (tC .non) := fun _ _ _ H _ I h => Constant_none ⟨.non, H, I, rfl, h⟩
theorem pe_str {x j pos} : PE X (.Constant (.str x) j pos) (tC (.str x)) := fun _ _ _ H _ I h => Calls.Constant_str ⟨.str x, H, I.tok _, ⟨_, rfl⟩, h⟩
def Gl (X : Cx) (x : Str) : Prop := X.env.kindOf x = some .globalImplicit
theorem ld_glob {E : Value → Shared → Prop} {pins : List (Addr × Obj)} {s : Shared} {σ : St} {H : Hp} {x : Str} {u : Value} {pos : Pos} {Q : Value → Shared → Prop} (I : Inv X pins σ H s) (hg : Gl X x) (hm : X.mg x = some u) (h : Q u s)
    (hd : (x == ("__debug__" : Str)) = false := by decide) : wpAny (model X.prog X.w) X.A (eval (.Name x pos) X.env) Q E s :=
  Calls.Name_function_global I.ok.kind hg (Calls.loadGlobal_global (by rw [I.ok.glob]; exact I.mod.glob.keeps I.bk) hm h) hd
theorem ld_blt {E : Value → Shared → Prop} {pins : List (Addr × Obj)} {s : Shared} {σ : St} {H : Hp} {x : Str} {u : Value} {pos : Pos} {Q : Value → Shared → Prop} (I : Inv X pins σ H s) (hg : Gl X x) (hm : X.mg x = none) (hv : bootBuiltins x = some u) (h : Q u s)
    (hn : x ≠ "__name__" := by decide) (hd : (x == ("__debug__" : Str)) = false := by decide) : wpAny (model X.prog X.w) X.A (eval (.Name x pos) X.env) Q E s := by
  obtain ⟨mb, h1, h2⟩ := I.mod.blt
  exact Calls.Name_function_global I.ok.kind hg (Calls.loadGlobal_builtin (by rw [I.ok.glob]; exact I.mod.glob.keeps I.bk) hm (by rw [I.ok.blt]; exact h1.keeps I.bk) ((h2 x hn).trans hv) h) hd
theorem pe_glob {x : Str} {v : V} {u : Value} {pos : Pos} (hg : Gl X x) (hm : X.mg x = some u) (r : RelV v u) (hd : (x == ("__debug__" : Str)) = false := by decide) : PE X (.Name x pos) (tC v) :=
  fun _ _ _ H _ I h => ld_glob I hg hm ⟨v, H, I, r, h⟩ hd
theorem pe_bltn {x : Str} {v : V} {u : Value} {pos : Pos} (hg : Gl X x) (hm : X.mg x = none) (hv : bootBuiltins x = some u) (r : RelV v u) (hn : x ≠ "__name__" := by decide) (hd : (x == ("__debug__" : Str)) = false := by decide) : PE X (.Name x pos) (tC v) :=
  fun _ _ _ H _ I h => ld_blt I hg hm hv ⟨v, H, I, r, h⟩ hn hd
def t2I (ta tb : TE) (k : Int → Int → Hp → Prop) : St → Hp → Prop := fun σ H => ta σ H fun x H1 => tb σ H1 fun y H2 => ∃ i j, x = .int i ∧ y = .int j ∧ k i j H2
variable {a b : Expr} {ta tb : TE} {pos : Pos}
def PC (X : Cx) (op : CmpOp) (a b : Expr) (t : TE) : Prop :=
  ∀ (pins : List (Addr × Obj)) (s : Shared) (σ : St) (H : Hp) (Q : VK), Inv X pins σ H s → t σ H Q →
    wpAny (model X.prog X.w) X.A (eval a X.env) (fun v s₁ => wpAny (model X.prog X.w) X.A (eval b X.env) (fun u s₂ => wpAny (model X.prog X.w) X.A (compareOp op v u) (EP X pins σ Q) X.xe s₂) X.xe s₁) X.xe s
theorem nobehind (b : Expr) {op : CmpOp} (h : op ≠ .In) (h2 : op ≠ .NotIn) : behindInMarks op b = false := by
  have e1 : (op == CmpOp.In) = false := by cases op <;> first | rfl | exact absurd rfl h
  have e2 : (op == CmpOp.NotIn) = false := by cases op <;> first | rfl | exact absurd rfl h2
  cases b <;> simp [behindInMarks, e1, e2]
def tCmp (p : Int → Int → Bool) (ta tb : TE) : TE := fun σ H Q => t2I ta tb (fun i j H2 => Q (.bl (p i j)) H2) σ H
abbrev tLt : TE → TE → TE := tCmp fun i j => decide (i < j)
abbrev tLe : TE → TE → TE := tCmp fun i j => decide (i ≤ j)
abbrev tGt : TE → TE → TE := tCmp fun i j => decide (j < i)
abbrev tGe : TE → TE → TE := tCmp fun i j => decide (j ≤ i)
theorem pc_int {op : CmpOp} {p : Int → Int → Bool} (ha : PE X a ta) (hb : PE X b tb)
    (rule : ∀ (i j : Int) (t u : Tok) (Q : Value → Shared → Prop) (s : Shared), Q (.bool (p i j)) s → wpAny (model X.prog X.w) X.A (compareOp op (.int i t) (.int j u)) Q X.xe s) : PC X op a b (tCmp p ta tb) := by
  intro pins s σ H Q I h
  refine bin ha hb I h fun v u s2 x y H2 I2 rx ry q => ?_
  obtain ⟨i, j, rfl, rfl, q⟩ := q
  obtain ⟨t, rfl⟩ := rx
  obtain ⟨t', rfl⟩ := ry
  exact rule i j t t' _ s2 ⟨.bl _, H2, I2, rfl, q⟩
theorem pc_lt (ha : PE X a ta) (hb : PE X b tb) : PC X .Lt a b (tLt ta tb) := pc_int ha hb fun _ _ _ _ _ _ h => lt_int h
theorem pc_le (ha : PE X a ta) (hb : PE X b tb) : PC X .LtE a b (tLe ta tb) := pc_int ha hb fun _ _ _ _ _ _ h => le_int h
theorem pc_gt (ha : PE X a ta) (hb : PE X b tb) : PC X .Gt a b (tGt ta tb) := pc_int ha hb fun _ _ _ _ _ _ h => gt_int h
theorem pc_ge (ha : PE X a ta) (hb : PE X b tb) : PC X .GtE a b (tGe ta tb) := pc_int ha hb fun _ _ _ _ _ _ h => ge_int h
def tNotN (ta : TE) : TE := fun σ H Q => ta σ H fun x H1 => Q (.bl (!decide (x = .non))) H1
theorem RelV.none_iff {x : V} {v : Value} (r : RelV x v) : (v == Value.none) = decide (x = .non) := by
  cases x with
  | non => cases r; rfl
  | bl _ => cases r; rfl
  | int _ => obtain ⟨t, rfl⟩ := r; rfl
  | str _ => obtain ⟨t, rfl⟩ := r; rfl
  | byt _ => obtain ⟨t, rfl⟩ := r; rfl
  | flt _ => obtain ⟨t, rfl⟩ := r; rfl
  | ref _ => cases r; rfl
  | ty _ => cases r; rfl
theorem pc_notN {j pos'} (ha : PE X a ta) : PC X .IsNot a (.Constant .none j pos') (tNotN ta) := by
  intro pins s σ H Q I h
  refine thn (ha pins s σ H _ I h) fun v s1 ⟨x, H1, I1, r1, q1⟩ => ?_
  exact Constant_none (isnot_none_gen ⟨.bl _, H1, I1, by rw [r1.none_iff]; rfl, q1⟩)
def tB (t : TE) : TT := fun σ H Q => t σ H fun x H1 => ∃ c, x = .bl c ∧ Q c H1
theorem pt_cmp {op : CmpOp} {t : TE} (h : PC X op a b t) (h1 : behindInMarks op b = false := by first | exact nobehind _ (by decide) (by decide) | rfl) : PT X (.Compare a [op] [b] pos) (tB t) := by
  intro pins s σ H Q I hw
  refine wpAny_isTrue_Compare1 (thn (h pins s σ H _ I hw) fun v s1 h1 => thn h1 fun u s2 h2 => thn h2 fun c s3 ⟨x, H1, I1, r1, q1⟩ => ?_) h1
  obtain ⟨d, rfl, q⟩ := q1
  cases r1
  exact wpAny_truthy_bool ⟨H1, I1, q⟩
theorem pt_val {e : Expr} {t : TE} (h : PE X e t) (he : ∀ whole, isTrue e X.env whole = (do let v ← whole; standAt e.pos; holding [v] (truthy v)) := by intro _; rfl) : PT X e (tB t) := by
  intro pins s σ H Q I hw
  refine isTrue_plain (thn (h pins s σ H _ I hw) fun v s1 ⟨x, H1, I1, r1, q1⟩ => ?_) (he _)
  obtain ⟨d, rfl, q⟩ := q1
  cases r1
  exact wpAny_truthy_bool ⟨H1, I1, q⟩
variable {tA tB' : TT} {rest : List Expr}
def tAnd (t u : TT) : TT := fun σ H Q => t σ H fun c H1 => if c = true then u σ H1 Q else Q false H1
def tOr (t u : TT) : TT := fun σ H Q => t σ H fun c H1 => if c = true then Q true H1 else u σ H1 Q
def tNot (t : TT) : TT := fun σ H Q => t σ H fun c H1 => Q (!c) H1
theorem pw_and1 (ha : PT X a tA) : PW X (.BoolOp .And [a] pos) tA := by
  intro wh pins s σ H Q I h
  refine isTrue_and (thn (ha pins s σ H Q I h) fun c s1 e => ?_)
  cases c with
  | true => exact isTrue_and_nil e
  | false => exact e
theorem pw_or1 (ha : PT X a tA) : PW X (.BoolOp .Or [a] pos) tA := by
  intro wh pins s σ H Q I h
  refine isTrue_or (thn (ha pins s σ H Q I h) fun c s1 e => ?_)
  cases c with
  | false => exact isTrue_or_nil e
  | true => exact e
theorem pw_and (ha : PT X a tA) (hb : PW X (.BoolOp .And (b :: rest) pos) tB') : PW X (.BoolOp .And (a :: b :: rest) pos) (tAnd tA tB') := by
  intro wh pins s σ H Q I h
  refine isTrue_and (thn (ha pins s σ H _ I h) fun c s1 ⟨H1, I1, q1⟩ => ?_)
  cases c with
  | true => exact hb wh pins s1 σ H1 Q I1 q1
  | false => exact ⟨H1, I1, q1⟩
theorem pw_or (ha : PT X a tA) (hb : PW X (.BoolOp .Or (b :: rest) pos) tB') : PW X (.BoolOp .Or (a :: b :: rest) pos) (tOr tA tB') := by
  intro wh pins s σ H Q I h
  refine isTrue_or (thn (ha pins s σ H _ I h) fun c s1 ⟨H1, I1, q1⟩ => ?_)
  cases c with
  | true => exact ⟨H1, I1, q1⟩
  | false => exact hb wh pins s1 σ H1 Q I1 q1
theorem pt_not (ha : PT X a tA) : PT X (.UnaryOp .Not a pos) (tNot tA) := by
  intro pins s σ H Q I h
  exact isTrue_not (ha pins s σ H (fun c H1 => Q (!c) H1) I h)
def tAndV (ta tb : TE) : TE := fun σ H Q => ta σ H fun x H1 => ∃ c, x = .bl c ∧ if c = true then tb σ H1 Q else Q (.bl false) H1
def tNotV (ta : TE) : TE := fun σ H Q => ta σ H fun x H1 => ∃ c, x = .bl c ∧ Q (.bl (!c)) H1
theorem pe_one {op} {t : TE} (h : PE X a t) : PE X (.BoolOp op [a] pos) t := fun pins s σ H Q I hw => BoolOp_one (h pins s σ H Q I hw)
theorem pe_and (ha : PE X a ta) (hb : PE X (.BoolOp .And (b :: rest) pos) tb) : PE X (.BoolOp .And (a :: b :: rest) pos) (tAndV ta tb) := by
  intro pins s σ H Q I h
  refine BoolOp_and (thn (ha pins s σ H _ I h) fun v s1 ⟨x, H1, I1, r1, q1⟩ => ?_)
  obtain ⟨c, rfl, q1⟩ := q1
  cases r1
  refine wpAny_truthy_bool ?_
  cases c with
  | true => exact hb pins s1 σ H1 Q I1 q1
  | false => exact ⟨.bl false, H1, I1, rfl, q1⟩
theorem pe_not (ha : PE X a ta) : PE X (.UnaryOp .Not a pos) (tNotV ta) := by
  intro pins s σ H Q I h
  refine UnaryOp_ (thn (ha pins s σ H _ I h) fun v s1 ⟨x, H1, I1, r1, q1⟩ => ?_)
  obtain ⟨c, rfl, q1⟩ := q1
  cases r1
  exact not_of (wpAny_truthy_bool ⟨.bl (!c), H1, I1, rfl, q1⟩)
def tIf (t : TT) (ta tb : TE) : TE := fun σ H Q => t σ H fun c H1 => if c = true then ta σ H1 Q else tb σ H1 Q
theorem pe_ifExp {c : Expr} (hc : PT X c tA) (ha : PE X a ta) (hb : PE X b tb) : PE X (.IfExp c a b pos) (tIf tA ta tb) := by
  intro pins s σ H Q I h
  refine wpAny_IfExp (thn (hc pins s σ H _ I h) fun d s1 ⟨H1, I1, q1⟩ => ?_)
  cases d with
  | true => exact ha pins s1 σ H1 Q I1 q1
  | false => exact hb pins s1 σ H1 Q I1 q1
end
end L2
namespace L2
open PySem PySem.Spec PyProof.Rows
def SqL (K : PySem.W.Frag) (H : Hp) (a : Addr) (xs : List V) : Prop :=
  Rd H a (.lst xs) ∨
    ∃ (o : Obj) (its : Array Value) (n : Nat), K.lookup a = some o ∧ o.cls = .type "list" ∧ o.dict = none ∧ o.data = .seq its n ∧ its.size ≤ sizeLine ∧ Vals xs its.toList
def SqT (K : PySem.W.Frag) (H : Hp) (a : Addr) (xs : List V) : Prop :=
  Rd H a (.tup xs) ∨
    ∃ (o : Obj) (its : Array Value) (n : Nat), K.lookup a = some o ∧ o.cls = .type "tuple" ∧ o.data = .seq its n ∧ its.size ≤ sizeLine ∧ Vals xs its.toList
def absV : Value → Option V
  | .none => some .non
  | .bool b => some (.bl b)
  | .int i _ => some (.int i)
  | .str x _ => some (.str x)
  | .bytes b _ => some (.byt b)
  | .float b _ => some (.flt b)
  | .ref a => some (.ref a)
  | .type n => some (.ty n)
  | _ => none
theorem RelV.abs {x : V} {u : Value} (r : RelV x u) : absV u = some x := by
  cases x with
  | non => cases r; rfl
  | bl _ => cases r; rfl
  | int _ => obtain ⟨t, rfl⟩ := r; rfl
  | str _ => obtain ⟨t, rfl⟩ := r; rfl
  | byt _ => obtain ⟨t, rfl⟩ := r; rfl
  | flt _ => obtain ⟨t, rfl⟩ := r; rfl
  | ref _ => cases r; rfl
  | ty _ => cases r; rfl
theorem RelV.inj {x y : V} {u : Value} (r : RelV x u) (q : RelV y u) : x = y := Option.some.inj (r.abs.symm.trans q.abs)
theorem Vals.inj : ∀ {xs ys : List V} {us : List Value}, Vals xs us → Vals ys us → xs = ys
  | _, _, _, .nil, .nil => rfl
  | _, _, _, .cons r t, .cons r' t' => by rw [r.inj r', Vals.inj t t']
section
variable {X : Cx} {pins : List (Addr × Obj)} {σ : St} {H : Hp} {s : Shared} {a : Addr} {xs ys : List V}
theorem SqL.of {K : PySem.W.Frag} (h : H a = some (.lst xs)) : SqL K H a xs := .inl (.inl h)
theorem SqT.of {K : PySem.W.Frag} (h : H a = some (.tup xs)) : SqT K H a xs := .inl (.inl h)
theorem Inv.list (I : Inv X pins σ H s) (h : SqL X.K H a xs) : ∃ its : List Value, Vals xs its ∧ PlainL s.heap a its.toArray ∧ xs.length ≤ sizeLine := by
  rcases h with h | ⟨o, its, n, hk, hc, hd, hs, hz, r⟩
  · obtain ⟨z, its, n, r, e⟩ := h.ok I.hok
    exact ⟨its, r, ⟨_, n, e, rfl, rfl, rfl⟩, z⟩
  · refine ⟨its.toList, r, ⟨o, n, I.kIn a o hk, hc, hd, by simpa using hs⟩, ?_⟩
    have e := r.length
    simp only [Array.length_toList] at e
    omega
theorem Inv.tuple (I : Inv X pins σ H s) (h : SqT X.K H a xs) : ∃ its : List Value, Vals xs its ∧ IsTup s.heap a its.toArray ∧ xs.length ≤ sizeLine := by
  rcases h with h | ⟨o, its, n, hk, hc, hs, hz, r⟩
  · obtain ⟨z, its, r, p⟩ := h.ok I.hok
    exact ⟨its, r, p, z⟩
  · refine ⟨its.toList, r, ⟨o, I.kIn a o hk, hc, n, by simpa using hs⟩, ?_⟩
    have e := r.length
    simp only [Array.length_toList] at e
    omega
theorem Inv.list_inj (I : Inv X pins σ H s) (h : SqL X.K H a xs) (h' : SqL X.K H a ys) : xs = ys := by
  obtain ⟨its, r, ⟨o, n, e, _, _, d⟩, _⟩ := I.list h
  obtain ⟨its', r', ⟨o', n', e', _, _, d'⟩, _⟩ := I.list h'
  rw [e] at e'; cases e'
  rw [d] at d'
  injection d' with d1 _
  have : its = its' := by simpa using congrArg Array.toList d1
  subst this
  exact r.inj r'
end
abbrev Cx.wish (X : Cx) (E : Value → Shared → Prop) : Cx := { X with xe := E }
abbrev Cx.nox (X : Cx) : Cx := X.wish fun _ _ => False
theorem Cx.Ok.wish {X : Cx} (ok : X.Ok) (E : Value → Shared → Prop) : (X.wish E).Ok :=
  ⟨ok.mod, ok.kind, ok.glob, ok.blt, ok.above, ok.inj, ok.has, ok.cab, ok.hd, ok.frames, ok.stk, ok.exf, ok.bs, ok.bsz, ok.noex, ok.exfs, ok.funs, ok.frf⟩
theorem Cx.Ok.unwish {X : Cx} {E : Value → Shared → Prop} (ok : (X.wish E).Ok) : X.Ok :=
  ⟨ok.mod, ok.kind, ok.glob, ok.blt, ok.above, ok.inj, ok.has, ok.cab, ok.hd, ok.frames, ok.stk, ok.exf, ok.bs, ok.bsz, ok.noex, ok.exfs, ok.funs, ok.frf⟩
section
variable {X : Cx} {pins : List (Addr × Obj)} {σ : St} {H : Hp} {s : Shared} {E : Value → Shared → Prop}
theorem Inv.wish (I : Inv X pins σ H s) (E : Value → Shared → Prop) : Inv (X.wish E) pins σ H s := ⟨I.ok.wish E, I.os, I.bare, I.base, I.loc, I.cell, I.free, I.freeC, I.pin, I.hok, I.len⟩
theorem Inv.unwish (I : Inv (X.wish E) pins σ H s) : Inv X pins σ H s := ⟨I.ok.unwish, I.os, I.bare, I.base, I.loc, I.cell, I.free, I.freeC, I.pin, I.hok, I.len⟩
theorem SP.unwish {D : Ends} {f : Flow} {s' : Shared} (h : SP (X.wish E) pins D f s') : SP X pins D f s' := by
  cases f with
  | next => obtain ⟨σ', H', I, q⟩ := h; exact ⟨σ', H', I.unwish, q⟩
  | brk => obtain ⟨σ', H', I, q⟩ := h; exact ⟨σ', H', I.unwish, q⟩
  | cont => obtain ⟨σ', H', I, q⟩ := h; exact ⟨σ', H', I.unwish, q⟩
  | ret u => obtain ⟨v, σ', H', I, r, q⟩ := h; exact ⟨v, σ', H', I.unwish, r, q⟩
theorem PE.nox {e : Expr} {t : TE} (h : PE X.nox e t) : PE X e t := fun pins s σ H Q I hw =>
  wpAny_mono (h pins s σ H Q (I.wish _) hw) (fun _ _ ⟨v, H', I', r, q⟩ => ⟨v, H', I'.unwish, r, q⟩) fun _ _ z => False.elim z
theorem PT.nox {e : Expr} {t : TT} (h : PT X.nox e t) : PT X e t := fun pins s σ H Q I hw =>
  wpAny_mono (h pins s σ H Q (I.wish _) hw) (fun _ _ ⟨H', I', q⟩ => ⟨H', I'.unwish, q⟩) fun _ _ z => False.elim z
theorem PSs.nox {st : List Stmt} {t : TS} (h : PSs X.nox st t) : PSs X st t := fun pins s σ H D I hw =>
  wpAny_mono (h pins s σ H D (I.wish _) hw) (fun _ _ q => q.unwish) fun _ _ z => False.elim z
end
section
variable {X : Cx} {st : Stmt} {rest : List Stmt} {t u : TS} {e : Expr} {te : TE} {pos : Pos}
def tNext : TS := fun D σ H => D.nx σ H
def tSeq (t u : TS) : TS := fun D σ H => t { D with nx := u D } σ H
theorem pss_nil : PSs X [] tNext := fun _ _ σ H _ I h => wpAny_execs_nil ⟨σ, H, I, h⟩
theorem pss_cons (h1 : PS X st t) (h2 : PSs X rest u) : PSs X (st :: rest) (tSeq t u) := by
  intro pins s σ H D I h
  refine wpAny_execs_cons (thn (h1 pins s σ H { D with nx := u D } I h) fun f s1 q => ?_)
  cases f with
  | next =>
    obtain ⟨σ', H', I', q⟩ := q
    exact h2 pins s1 σ' H' D I' q
  | ret v => exact q
  | brk => exact q
  | cont => exact q
theorem pss_one (h1 : PS X st t) : PSs X [st] t := by
  intro pins s σ H D I h
  refine wpAny_execs_cons (thn (h1 pins s σ H D I h) fun f s1 q => ?_)
  cases f with
  | next => exact wpAny_execs_nil q
  | ret v => exact q
  | brk => exact q
  | cont => exact q
theorem Inv.quiet {pins : List (Addr × Obj)} {σ : St} {H : Hp} {s : Shared} (I : Inv X pins σ H s) : interactive X.env = false := by simp [interactive, I.ok.kind]
def tDrop (te : TE) : TS := fun D σ H => te σ H fun _ H1 => D.nx σ H1
theorem ps_expr (he : PE X e te) (hs : swapsWith e none pos.line X.env = pure false := by rfl) : PS X (.Expr e pos) (tDrop te) := by
  intro pins s σ H D I h
  exact wpAny_Expr_any (thn (he pins s σ H _ I h) fun v s1 ⟨x, H1, I1, r1, q1⟩ => ⟨σ, H1, I1, q1⟩) I.quiet hs
def tRet (te : TE) : TS := fun D σ H => te σ H D.rt
theorem ps_ret (he : PE X e te) : PS X (.Return (some e) pos) (tRet te) := by
  intro pins s σ H D I h
  exact wpAny_Return_some (thn (he pins s σ H _ I h) fun v s1 ⟨x, H1, I1, r1, q1⟩ => ⟨x, σ, H1, I1, r1, q1⟩)
def tIfS (c : TT) (t u : TS) : TS := fun D σ H => c σ H fun b H1 => if b = true then t D σ H1 else u D σ H1
theorem ps_if {c : Expr} {a b : List Stmt} {tc : TT} (hc : PT X c tc) (ha : PSs X a t) (hb : PSs X b u) : PS X (.If c a b pos) (tIfS tc t u) := by
  intro pins s σ H D I h
  refine wpAny_If (thn (hc pins s σ H _ I h) fun d s1 ⟨H1, I1, q1⟩ => ?_)
  cases d with
  | true => exact ha pins s1 σ H1 D I1 q1
  | false => exact hb pins s1 σ H1 D I1 q1
def tNever : TS := fun _ _ _ => False
theorem pss_never {sts : List Stmt} : PSs X sts tNever := fun _ _ _ _ _ _ h => h.elim
end
abbrev TG := V → St → Hp → (St → Hp → Prop) → Prop
abbrev TGs := List V → St → Hp → (St → Hp → Prop) → Prop
def PG (X : Cx) (target : Expr) (t : TG) : Prop :=
  ∀ (pins : List (Addr × Obj)) (s : Shared) (σ : St) (H : Hp) (v : V) (u : Value) (Q : St → Hp → Prop), Inv X pins σ H s → RelV v u → t v σ H Q →
    wpAny (model X.prog X.w) X.A (assign target X.env u) (fun _ s' => ∃ σ' H', Inv X pins σ' H' s' ∧ Q σ' H') X.xe s
def PGs (X : Cx) (ts : List Expr) (t : TGs) : Prop :=
  ∀ (pins : List (Addr × Obj)) (s : Shared) (σ : St) (H : Hp) (vs : List V) (us : List Value) (Q : St → Hp → Prop), Inv X pins σ H s → Vals vs us → t vs σ H Q →
    wpAny (model X.prog X.w) X.A (assignInOrder ((assignEach ts X.env).map (·.2)) us) (fun _ s' => ∃ σ' H', Inv X pins σ' H' s' ∧ Q σ' H') X.xe s
abbrev TSet := V → V → V → Hp → (Hp → Prop) → Prop
def PSet (X : Cx) (t : TSet) : Prop :=
  ∀ (pins : List (Addr × Obj)) (s : Shared) (σ : St) (H : Hp) (o i v : V) (ov iv u : Value) (Q : Hp → Prop), Inv X pins σ H s → RelV o ov → RelV i iv → RelV v u → t o i v H Q →
    wpAny (model X.prog X.w) X.A (setItem ov iv u) (fun _ s' => ∃ H', Inv X pins σ H' s' ∧ Q H') X.xe s
abbrev TIp := V → V → Hp → VK → Prop
def PIp (X : Cx) (op : Operator) (t : TIp) : Prop :=
  ∀ (pins : List (Addr × Obj)) (s : Shared) (σ : St) (H : Hp) (x y : V) (v u : Value) (Q : VK), Inv X pins σ H s → RelV x v → RelV y u → t x y H Q →
    wpAny (model X.prog X.w) X.A (inplaceOp op v u) (EP X pins σ Q) X.xe s
section
variable {X : Cx} {pos : Pos}
def gName (i : Nat) : TG := fun v σ H Q => Q (σ.set i (some v)) H
theorem pg_name {i : Nat} {x : Str} (hN : X.N.Nodup) (hi : X.N[i]? = some x) (hx : Loc X.env.scope x) (hf : X.fn x = true ∨ X.env.scope.names.lookup x = some .local := by first | exact .inl rfl | exact .inr rfl | assumption) : PG X (.Name x pos) (gName i) := by
  intro pins s σ H v u Q I r h
  exact wpAny_assign_Name (store_ok I hN hi hx r (fun s' I' => ⟨_, H, I', h⟩) hf)
def gNil : TGs := fun vs σ H Q => vs = [] ∧ Q σ H
def gCons (t : TG) (u : TGs) : TGs := fun vs σ H Q => ∃ v r, vs = v :: r ∧ t v σ H fun σ' H' => u r σ' H' Q
theorem pgs_nil : PGs X [] gNil := by
  intro pins s σ H vs us Q I r h
  obtain ⟨e, h⟩ := h
  subst e
  cases r
  exact assignInOrder_nil ⟨σ, H, I, h⟩
theorem pgs_cons {e : Expr} {es : List Expr} {t : TG} {u : TGs} (h1 : PG X e t) (h2 : PGs X es u)
    (hs : (assignEach (e :: es) X.env).map (·.2) = assign e X.env :: (assignEach es X.env).map (·.2) := by rfl) : PGs X (e :: es) (gCons t u) := by
  intro pins s σ H vs us Q I r h
  obtain ⟨v, vr, e1, h⟩ := h
  subst e1
  cases r with
  | cons r rr =>
    rw [hs]
    refine assignInOrder_cons (thn (h1 pins s σ H _ _ _ I r h) fun _ s1 ⟨σ1, H1, I1, q1⟩ => ?_)
    exact h2 pins s1 σ1 H1 _ _ Q I1 rr q1
def gTup (K : PySem.W.Frag) (n : Nat) (t : TGs) : TG := fun v σ H Q => ∃ a xs, v = .ref a ∧ SqT K H a xs ∧ xs.length = n ∧ t xs σ H Q
theorem pg_tup {es : List Expr} {k : Nat} {t : TGs} {n : Nat} (hc : X.calm = true) (h : PGs X es t)
    (hn : (assignEach es X.env).length = n := by rfl) (hst : (assignEach es X.env).findIdx? (·.1) = none := by rfl) : PG X (.Tuple es k pos) (gTup X.K n t) := by
  intro pins s σ H v u Q I r hw
  obtain ⟨a, xs, e1, hq, hl, hw⟩ := hw
  subst e1
  cases r
  obtain ⟨its, rv, ht, hz⟩ := I.tuple hq
  refine assign_Tuple_tuple (I.ok.hd hc) ht (by simp [hn, ← hl, rv.length]) hst fun h' hx => ?_
  have I1 : Inv X pins σ H { s with heap := h' } := I.kept (t' := s.toks) fun b o e => hx b o (Nat.ne_of_lt (Heap.lt_size e)) e
  exact h pins _ σ H xs _ Q I1 (by simpa using rv) hw
def gSub (to ti : TE) (t : TSet) : TG := fun v σ H Q => to σ H fun o H1 => ti σ H1 fun i H2 => t o i v H2 fun H3 => Q σ H3
theorem pg_sub {o i : Expr} {to ti : TE} {t : TSet} (ho : PE X o to) (hi : PE X i ti) (hs : PSet X t)
    (ha : ∀ v, assign (.Subscript o i pos) X.env v = (do
      let ov ← holding [v] (eval o X.env)
      let iv ← holding [v, ov] (eval i X.env)
      standAt pos
      holding [v, ov, iv] (setItem ov iv v)
      release [v, ov, iv] []) := by intro _; rfl) : PG X (.Subscript o i pos) (gSub to ti t) := by
  intro pins s σ H v u Q I r h
  rw [ha]
  refine wpAny_bind (wpAny_holding (thn (ho pins s σ H _ I h) fun ov s1 ⟨x, H1, I1, r1, q1⟩ => ?_))
  refine wpAny_bind (wpAny_holding (thn (hi pins s1 σ H1 _ I1 q1) fun iv s2 ⟨y, H2, I2, r2, q2⟩ => ?_))
  refine wpAny_bind (wpAny_standAt (wpAny_bind (wpAny_holding (thn (hs pins s2 σ H2 x y v ov iv u _ I2 r1 r2 r q2) fun _ s3 ⟨H3, I3, q3⟩ => ?_))))
  exact wpAny_release ⟨σ, H3, I3, q3⟩
def tAsg (te : TE) (g : TG) : TS := fun D σ H => te σ H fun x H1 => g x σ H1 D.nx
theorem ps_asg {tg e : Expr} {te : TE} {g : TG} (he : PE X e te) (hg : PG X tg g) (hs : swapsWithSole [tg] e pos.line X.env = pure false := by rfl) (hw : swappedStores [tg] e X.env = pure none := by rfl)
    (h1 : (assignEach [tg] X.env).map (·.2) = [assign tg X.env] := by rfl) : PS X (.Assign [tg] e pos) (tAsg te g) := by
  intro pins s σ H D I h
  refine wpAny_Assign_stores (thn (he pins s σ H _ I h) fun v s1 ⟨x, H1, I1, r1, q1⟩ => ?_) hs hw
  rw [h1]
  exact thn (hg pins s1 σ H1 x v _ I1 r1 q1) fun _ s2 q => q
theorem ps_set {i : Nat} {x : Str} {e : Expr} {te : TE} {pos' : Pos} (hN : X.N.Nodup) (hi : X.N[i]? = some x) (hx : Loc X.env.scope x) (he : PE X e te) (hs : swapsWith e (some (.Name x pos')) pos.line X.env = pure false := by rfl) (hf : X.fn x = true ∨ X.env.scope.names.lookup x = some .local := by first | exact .inl rfl | exact .inr rfl | assumption) :
    PS X (.Assign [.Name x pos'] e pos) (tAsg te (gName i)) := by
  intro pins s σ H D I h
  refine wpAny_Assign_Name (thn (he pins s σ H _ I h) fun v s1 ⟨y, H1, I1, r1, q1⟩ => ?_) hs
  exact store_ok I1 hN hi hx r1 (fun s2 I2 => ⟨_, H1, I2, q1⟩) hf
def tAug (i : Nat) (te : TE) (ti : TIp) : TS := fun D σ H => ∃ x, σ[i]? = some (some x) ∧ te σ H fun y H1 => ti x y H1 fun z H2 => D.nx (σ.set i (some z)) H2
theorem ps_aug {i : Nat} {x : Str} {e : Expr} {te : TE} {op : Operator} {ti : TIp} {pos' : Pos} (hN : X.N.Nodup) (hi : X.N[i]? = some x) (hx : Loc X.env.scope x) (he : PE X e te) (ho : PIp X op ti) (hf : X.fn x = true ∨ X.env.scope.names.lookup x = some .local := by first | exact .inl rfl | exact .inr rfl | assumption) :
    PS X (.AugAssign (.Name x pos') op e pos) (tAug i te ti) := by
  intro pins s σ H D I h
  obtain ⟨v, e1, h⟩ := h
  obtain ⟨m, hn, hl⟩ := I.loc
  have vis : Vis X.env.scope x := by rcases hx with k | k; exact .inl k; exact .inr (.inl k)
  obtain ⟨u, r, l⟩ := hl i x v hi e1 vis
  refine wpAny_AugAssign_Name ?_
  have go : wpAny (model X.prog X.w) X.A (eval e X.env) (fun w s₂ => wpAny (model X.prog X.w) X.A (inplaceOp op u w) (fun r s₃ => wpAny (model X.prog X.w) X.A (storeName X.env x r) (fun _ => SP X pins D .next) X.xe s₃) X.xe s₂) X.xe s := by
    refine thn (he pins s σ H _ I h) fun w s1 ⟨y, H1, I1, r1, q1⟩ => ?_
    refine thn (ho pins s1 σ H1 v y u w _ I1 r r1 q1) fun z s2 ⟨zv, H2, I2, r2, q2⟩ => ?_
    exact store_ok I2 hN hi hx r2 (fun s3 I3 => ⟨_, H2, I3, q2⟩) hf
  rcases l with ⟨hk, hm⟩ | ⟨hk, c, hc, hcell⟩
  · exact wpAny_loadName_local I.ok.kind hk hn hm go
  · rcases hk with hk | hk
    · exact wpAny_loadName_cell I.ok.kind hk hc hcell go
    · rcases hx with k | k
      · have : X.env.scope.names.lookup x = some .free := hk
        rw [k] at this; cases this
      · have : X.env.scope.names.lookup x = some .free := hk
        rw [k] at this; cases this
def tAugS (to ti te : TE) (tget : V → V → Hp → VK → Prop) (tip : TIp) (tset : TSet) : TS := fun D σ H => to σ H fun o H1 => ti σ H1 fun i H2 => tget o i H2 fun x H3 => te σ H3 fun y H4 => tip x y H4 fun z H5 => tset o i z H5 fun H6 => D.nx σ H6
def PGet (X : Cx) (t : V → V → Hp → VK → Prop) : Prop :=
  ∀ (pins : List (Addr × Obj)) (s : Shared) (σ : St) (H : Hp) (o i : V) (ov iv : Value) (Q : VK), Inv X pins σ H s → RelV o ov → RelV i iv → t o i H Q →
    wpAny (model X.prog X.w) X.A (getItem ov iv) (EP X pins σ Q) X.xe s
theorem ps_augS {o i e : Expr} {to ti te : TE} {tget : V → V → Hp → VK → Prop} {tip : TIp} {tset : TSet} {op : Operator} {tpos : Pos} (ho : PE X o to) (hi : PE X i ti) (hg : PGet X tget) (he : PE X e te) (hp : PIp X op tip) (hs : PSet X tset)
    (ha : ∀ ov iv new, augStore i ov iv new = (do holding [new, ov, iv] (setItem ov iv new); release [new, ov, iv] []; pure .next) := by intros; rfl) : PS X (.AugAssign (.Subscript o i tpos) op e pos) (tAugS to ti te tget tip tset) := by
  intro pins s σ H D I h
  refine wpAny_AugAssign_SubscriptAny (thn (ho pins s σ H _ I h) fun ov s1 ⟨x1, H1, I1, r1, q1⟩ => ?_) ha
  refine thn (hi pins s1 σ H1 _ I1 q1) fun iv s2 ⟨x2, H2, I2, r2, q2⟩ => ?_
  refine thn (hg pins s2 σ H2 x1 x2 ov iv _ I2 r1 r2 q2) fun old s3 ⟨x3, H3, I3, r3, q3⟩ => ?_
  refine thn (he pins s3 σ H3 _ I3 q3) fun v s4 ⟨x4, H4, I4, r4, q4⟩ => ?_
  refine thn (hp pins s4 σ H4 x3 x4 old v _ I4 r3 r4 q4) fun new s5 ⟨x5, H5, I5, r5, q5⟩ => ?_
  exact thn (hs pins s5 σ H5 x1 x2 x5 ov iv new _ I5 r1 r2 r5 q5) fun _ s6 ⟨H6, I6, q6⟩ => ⟨σ, H6, I6, q6⟩
def ipI (f : Int → Int → Int) : TIp := fun x y H Q => ∃ i j, x = .int i ∧ y = .int j ∧ Q (.int (f i j)) H
theorem ip_add : PIp X .Add (ipI fun i j => i + j) := by
  intro pins s σ H x y v u Q I r1 r2 h
  obtain ⟨i, j, e1, e2, q⟩ := h
  subst e1; subst e2
  obtain ⟨t, rfl⟩ := r1
  obtain ⟨t', rfl⟩ := r2
  exact iadd_int ⟨.int _, H, I.tok _, ⟨_, rfl⟩, q⟩
end
section
variable {X : Cx} {pos : Pos}
def tWhile (c : TT) (tb : TS) : TS := fun D σ H => ∃ W : Nat → St → Hp → Prop, (∃ m, W m σ H) ∧ ∀ m σ H, W m σ H →
  c σ H fun b H1 => if b = true then ∃ N : St → Hp → Prop, (∀ σ' H', N σ' H' → ∃ m', m' < m ∧ W m' σ' H') ∧ tb { D with nx := N, ct := N, bk := D.nx } σ H1 else D.nx σ H1
theorem ps_while {c : Expr} {body : List Stmt} {tc : TT} {tb : TS} (hp : PassesOwn (model X.prog X.w) X.A X.env X.xe) (hc : PT X c tc) (hb : PSs X body tb) : PS X (.While c body [] pos) (tWhile tc tb) := by
  intro pins s σ H D I h
  obtain ⟨W, ⟨m0, w0⟩, turn⟩ := h
  refine wpAny_While (codeAny_whileLoop (fun n s' => ∃ σ' H', Inv X pins σ' H' s' ∧ W n σ' H') ?_ m0 ⟨σ, H, I, w0⟩)
  rintro n s1 ⟨σ1, H1, I1, w1⟩
  refine wpAny_passesOwn hp (thn (hc pins s1 σ1 H1 _ I1 (turn n σ1 H1 w1)) fun b s2 ⟨H2, I2, q2⟩ => ?_)
  cases b with
  | true =>
    obtain ⟨N, hN, q2⟩ := q2
    rw [if_pos rfl]
    refine wpAny_passesOwn hp (thn (hb pins s2 σ1 H2 _ I2 q2) fun f s3 q3 => ?_)
    cases f with
    | next =>
      obtain ⟨σ3, H3, I3, n3⟩ := q3
      obtain ⟨m', hm, w3⟩ := hN σ3 H3 n3
      exact ⟨m', hm, σ3, H3, I3, w3⟩
    | cont =>
      obtain ⟨σ3, H3, I3, n3⟩ := q3
      obtain ⟨m', hm, w3⟩ := hN σ3 H3 n3
      exact ⟨m', hm, σ3, H3, I3, w3⟩
    | brk => exact q3
    | ret v => exact q3
  | false =>
    rw [if_neg Bool.false_ne_true]
    exact wpAny_execs_nil ⟨σ1, H2, I2, q2⟩
end
structure It where
  go : Nat → Hp → Prop
  yld : Nat → Hp → V → Hp → Prop
  stop : Nat → Hp → Prop
def FpOk (X : Cx) (pins : List (Addr × Obj)) (H : Hp) (b : Addr) : Prop :=
  H b = none ∧ b ≠ X.env.locals ∧ b ∉ X.fs ∧ (b ∈ X.ex ∨ X.s₀.heap.objs.size ≤ b) ∧ (∀ x c, X.env.cells.lookup x = some c → c ≠ b) ∧ ∀ p ∈ X.pn ++ pins, p.1 ≠ b
theorem Inv.fpOk {X : Cx} {pins : List (Addr × Obj)} {σ : St} {H H' : Hp} {s : Shared} {b : Addr} (I : Inv X pins σ H s) (hb : s.heap.objs.size ≤ b) (hn : H' b = none) : FpOk X pins H' b := by
  refine ⟨hn, Nat.ne_of_gt (Nat.lt_of_lt_of_le I.lt hb), I.nofs hb, .inr (Nat.le_trans I.sz hb), fun x c e z => ?_, fun p hp z => ?_⟩
  · obtain ⟨v, q⟩ := I.cell x c e
    exact absurd (Nat.lt_of_lt_of_le q.lt (by rw [z]; exact hb)) (Nat.lt_irrefl _)
  · exact absurd (Nat.lt_of_lt_of_le (Heap.lt_size (I.pin p hp).1) (by rw [z]; exact hb)) (Nat.lt_irrefl _)
structure Turn (P : Program) (w : World) (K : PySem.W.Frag) (tg : Expr) (J : It) (fp : List Addr) (it : Addr) (tn : Nat → Heap → Prop) : Prop where
  mem : it ∈ fp
  obj : ∀ i h, tn i h → ∀ b ∈ fp, ∃ o, h.get? b = some o ∧ ∀ v, o.data ≠ .cell v
  keep : ∀ i h h', tn i h → (∀ b ∈ fp, ∀ o, h.get? b = some o → h'.get? b = some o) → tn i h'
  item : ∀ (X : Cx), X.prog = P → X.w = w → X.K = K → X.calm = true → ∀ (i : Nat) (pins : List (Addr × Obj)) (s : Shared) (σ : St) (H : Hp) (E : Value → Shared → Prop), Inv X pins σ H s → (∀ b ∈ fp, FpOk X pins H b) → tn i s.heap → J.go i H →
    wpAny (model P w) X.A (pyNext (.ref it)) (fun r s1 => ∃ u, r = some u ∧
      wpAny (model P w) X.A (letOwnedTupleGo tg (.ref it) u) (fun _ s2 => ∃ x H', Inv X pins σ H' s2 ∧ RelV x u ∧ J.yld i H x H' ∧ tn (i + 1) s2.heap ∧ ∀ b ∈ fp, H' b = none) E s1) E s
  done : ∀ (X : Cx), X.prog = P → X.w = w → X.K = K → X.calm = true → ∀ (i : Nat) (pins : List (Addr × Obj)) (s : Shared) (σ : St) (H : Hp) (E : Value → Shared → Prop), Inv X pins σ H s → (∀ b ∈ fp, FpOk X pins H b) → tn i s.heap → J.stop i H →
    wpAny (model P w) X.A (pyNext (.ref it)) (fun r s1 => r = none ∧ Inv X pins σ H s1) E s
  self : ∀ (A : Around) (i : Nat) (s : Shared) (Q : Value → Shared → Prop) (E : Value → Shared → Prop), tn i s.heap → Q (.ref it) s → wpAny (model P w) A (pyIter (.ref it)) Q E s
abbrev TI := St → Hp → (It → Hp → Prop) → Prop
def PIE (X : Cx) (pins : List (Addr × Obj)) (σ : St) (tg : Expr) (R : It → Hp → Prop) (itv : Value) (s2 : Shared) : Prop :=
  ∃ (it : Addr) (fp : List Addr) (tn : Nat → Heap → Prop) (J : It) (H' : Hp), itv = .ref it ∧ Inv X pins σ H' s2 ∧ Turn X.prog X.w X.K tg J fp it tn ∧ tn 0 s2.heap ∧ (∀ b ∈ fp, FpOk X pins H' b) ∧ R J H'
def PI (X : Cx) (tg iter : Expr) (wi : TI) : Prop :=
  ∀ (pins : List (Addr × Obj)) (s : Shared) (σ : St) (H : Hp) (R : It → Hp → Prop), Inv X pins σ H s → wi σ H R →
    wpAny (model X.prog X.w) X.A (eval iter X.env) (fun v s1 => wpAny (model X.prog X.w) X.A (pyIter v) (PIE X pins σ tg R) X.xe s1) X.xe s
theorem go_of {M : Model} {A : Around} {E : Value → Shared → Prop} {s : Shared} {tg : Expr} {it : Addr} {u : Value} {o : Obj} {n : String} {vs : Array Value} {Q : Unit → Shared → Prop} (ho : s.heap.get? it = some o) (hc : o.cls = .type n) (hd : o.data = .fields vs)
    (hn : ["enumerate", "zip", "dict_itemiterator", "dict_reverseitemiterator", "odict_iterator", "itertools.zip_longest", "itertools.pairwise"].contains n = false) (hQ : Q () s) : wpAny M A (letOwnedTupleGo tg (.ref it) u) Q E s := by
  unfold letOwnedTupleGo
  cases tg <;> first
    | exact wpAny_pure hQ
    | (cases u <;> first
        | exact wpAny_pure hQ
        | (refine wpAny_bind (wpAny_load ho ?_)
           rw [hc, hd]
           show wpAny M A (if (["enumerate", "zip", "dict_itemiterator", "dict_reverseitemiterator", "odict_iterator", "itertools.zip_longest", "itertools.pairwise"].contains n && vs[0]? == some (rawInt _)) = true then _ else _) Q E s
           rw [if_neg (by intro h; rw [hn, Bool.false_and] at h; cases h)]
           exact wpAny_pure hQ))
def Itl (K : PySem.W.Frag) (a : Addr) : It :=
  ⟨fun i H => ∃ xs x, SqL K H a xs ∧ xs[i]? = some x, fun i H x H' => H' = H ∧ ∀ xs, SqL K H a xs → xs[i]? = some x, fun i H => ∃ xs, SqL K H a xs ∧ xs.length ≤ i⟩
def Itr (lo : Int) (n : Nat) : It := ⟨fun i _ => i < n, fun i H x H' => H' = H ∧ x = .int (lo + i), fun i _ => n ≤ i⟩
theorem turn_list {P : Program} {w : World} {K : PySem.W.Frag} {tg : Expr} (a it : Addr) : Turn P w K tg (Itl K a) [it] it (fun i h => h.IsListIter it a i) where
  mem := by simp
  obj := fun i h st b hb => by
    have e : b = it := by simpa using hb
    subst e
    obtain ⟨o, e, c, d⟩ := st
    exact ⟨o, e, fun v z => by rw [d] at z; cases z⟩
  keep := fun i h h' st k => st.at fun o e => k it (by simp) o e
  item := by
    intro X hP hw hK hc i pins s σ H E I hf st hg
    subst hP hw hK
    obtain ⟨xs, x, hq, hx⟩ := hg
    obtain ⟨its, rv, p, hz⟩ := I.list hq
    obtain ⟨u, hu, ru⟩ := rv.get hx
    obtain ⟨f0, f1, f2, f3, f4, f5⟩ := hf it (by simp)
    refine wpAny_pyNext_list_item st p.isList (x := u) (by simpa using hu) fun h' st' sb => ?_
    have I1 : Inv X pins σ H { s with heap := h' } := I.turned (t' := s.toks) (fun b o hb e => (sb.2 b hb).trans e) f0 f1 f3 f4 f5
    obtain ⟨o, e, c, d⟩ := id st'
    exact ⟨u, rfl, go_of (s := { s with heap := h' }) e c d (by decide) ⟨x, H, I1, ru, ⟨rfl, fun ys hy => by rw [I.list_inj hy hq]; exact hx⟩, st', fun b hb => (hf b hb).1⟩⟩
  done := by
    intro X hP hw hK hc i pins s σ H E I hf st hg
    subst hP hw hK
    obtain ⟨xs, hq, hx⟩ := hg
    obtain ⟨its, rv, p, hz⟩ := I.list hq
    obtain ⟨f0, f1, f2, f3, f4, f5⟩ := hf it (by simp)
    have hl := rv.length
    exact wpAny_pyNext_list_end (I.ok.hd hc) st p.isList (by simp; omega) fun h' eb => ⟨rfl, I.turned (t' := s.toks) (fun b o hb e => eb b o hb e) f0 f1 f3 f4 f5⟩
  self := fun _ _ _ _ _ st h => wpAny_pyIter_listiter st h
theorem turn_range {P : Program} {w : World} {K : PySem.W.Frag} {tg : Expr} (it : Addr) (lo : Int) (n : Nat) : Turn P w K tg (Itr lo n) [it] it (fun i h => IsRangeIter h it (lo + (i : Nat) * 1) ((n : Int) - (i : Nat)) 1) where
  mem := by simp
  obj := fun i h st b hb => by
    have e : b = it := by simpa using hb
    subst e
    exact ⟨_, st, fun v z => by
      have z' : Data.fields _ = Data.cell v := z
      cases z'⟩
  keep := fun i h h' st k => k it (by simp) _ st
  item := by
    intro X hP hw hK hc i pins s σ H E I hf st hg
    subst hP hw hK
    obtain ⟨f0, f1, f2, f3, f4, f5⟩ := hf it (by simp)
    have W := Walks.range (prog := X.prog) (w := X.w) (I.ok.hd hc) it lo 1 n
    refine W.item i s _ _ hg st fun v h' tk hv st' kk => ?_
    obtain ⟨t, rfl⟩ := hv
    have I1 : Inv X pins σ H { s with heap := h', toks := tk } := I.turned (fun b o hb e => kk b o (by simpa using hb) e) f0 f1 f3 f4 f5
    refine ⟨_, rfl, go_of (s := { s with heap := h', toks := tk }) (n := "range_iterator") st' rfl rfl (by decide) ⟨.int (lo + i), H, I1, ⟨t, ?_⟩, ⟨rfl, rfl⟩, st', fun b hb => (hf b hb).1⟩⟩
    rw [Int.mul_one]
  done := by
    intro X hP hw hK hc i pins s σ H E I hf st hg
    subst hP hw hK
    obtain ⟨f0, f1, f2, f3, f4, f5⟩ := hf it (by simp)
    exact wpAny_pyNext_range_end (I.ok.hd hc) st (by have : n ≤ i := hg; omega) fun h' eb => ⟨rfl, I.turned (t' := s.toks) (fun b o hb e => eb b o hb e) f0 f1 f3 f4 f5⟩
  self := fun _ _ _ _ _ st h => wpAny_pyIter_rangeiter st h
end L2
namespace L2
open PySem PySem.Spec PyProof.Rows
section
variable {X : Cx} {tg : Expr}
def iList (K : PySem.W.Frag) (tl : TE) : TI := fun σ H R => tl σ H fun x H1 => ∃ a, x = .ref a ∧ (∃ xs, SqL K H1 a xs) ∧ R (Itl K a) H1
theorem pi_list {l : Expr} {tl : TE} (hl : PE X l tl) : PI X tg l (iList X.K tl) := by
  intro pins s σ H R I h
  refine thn (hl pins s σ H _ I h) fun v s1 ⟨x, H1, I1, r1, q1⟩ => ?_
  obtain ⟨a, e, ⟨xs, hq⟩, q⟩ := q1
  subst e
  cases r1
  obtain ⟨its, rv, p, hz⟩ := I1.list hq
  refine wpAny_pyIter_list p.isList ?_
  refine ⟨s1.heap.objs.size, [s1.heap.objs.size], _, _, H1, rfl, I1.kept (t' := s1.toks) fun b o e => Heap.get?_push_of_some _ e, turn_list a _, ⟨_, Heap.get?_push_size _ rfl, rfl, rfl⟩, fun b hb => ?_, q⟩
  have e : b = s1.heap.objs.size := by simpa using hb
  subst e
  exact I1.fpOk (Nat.le_refl _) (I1.hok.fresh (Nat.le_refl _))
theorem range_it {pins : List (Addr × Obj)} {σ : St} {H : Hp} {s : Shared} {R : It → Hp → Prop} {E : Value → Shared → Prop} {lo hi : Int} {t u v : Tok} {tk : Nat} (I : Inv X pins σ H s) (h1 : -(2 ^ 62) ≤ lo) (h2 : lo < 2 ^ 62) (h3 : -(2 ^ 62) ≤ hi) (h4 : hi < 2 ^ 62)
    (q : R (Itr lo (hi - lo).toNat) H) : wpAny (model X.prog X.w) X.A (pyIter (.ref s.heap.objs.size)) (PIE X pins σ tg R) E { s with heap := s.heap.push { cls := .type "range", data := .fields #[.int lo t, .int hi u, .int 1 v] }, toks := tk } := by
  refine wpAny_pyIter_range (IsRange.new ..) (small_one h1 h2 h3 h4) ?_
  have I1 : Inv X pins σ H { s with heap := s.heap.push { cls := .type "range", data := .fields #[.int lo t, .int hi u, .int 1 v] }, toks := tk } := I.kept fun b o e => Heap.get?_push_of_some _ e
  refine ⟨(s.heap.push { cls := .type "range", data := .fields #[.int lo t, .int hi u, .int 1 v] }).objs.size, [(s.heap.push { cls := .type "range", data := .fields #[.int lo t, .int hi u, .int 1 v] }).objs.size], _, _, H, rfl,
    I1.kept (t' := tk) fun b o e => Heap.get?_push_of_some _ e, turn_range _ lo (hi - lo).toNat, ?_, fun b hb => ?_, q⟩
  · have e1 : lo + ((0 : Nat) : Int) * 1 = lo := by simp
    have e2 : (((hi - lo).toNat : Nat) : Int) - ((0 : Nat) : Int) = Builtin.Range.rangeSize lo hi 1 := by rw [rangeSize_one]; split <;> omega
    show IsRangeIter _ _ (lo + ((0 : Nat) : Int) * 1) ((((hi - lo).toNat : Nat) : Int) - ((0 : Nat) : Int)) 1
    rw [e1, e2]
    exact Heap.get?_push_size _ rfl
  · have e : b = (s.heap.push { cls := .type "range", data := .fields #[.int lo t, .int hi u, .int 1 v] }).objs.size := by simpa using hb
    subst e
    exact I1.fpOk (Nat.le_refl _) (I1.hok.fresh (Nat.le_refl _))
def iRng1 (ta : TA) : TI := fun σ H R => ta σ H fun vs H1 => ∃ j : Int, vs = [.int j] ∧ -(2 ^ 62) ≤ j ∧ j < 2 ^ 62 ∧ R (Itr 0 j.toNat) H1
theorem pi_range1 {a : Expr} {ta : TA} {p pos : Pos} (hg : Gl X "range") (hm : X.mg "range" = none) (ha : PA X [a] ta) (hs : starEach [a] X.env = [(false, eval a X.env)] := by rfl) : PI X tg (.Call (.Name "range" p) [a] [] pos) (iRng1 ta) := by
  intro pins s σ H R I h
  refine Call_ (ld_blt I hg hm boot_range (PyProof.Rows.callWith_type1 (thn (ha pos pins s σ H _ I h) fun us s1 ⟨vs, H1, I1, r1, q1⟩ => ?_) hs rfl))
  obtain ⟨j, e, q1, q2, q⟩ := q1
  subst e
  cases r1 with
  | cons r rr =>
    cases rr
    obtain ⟨t, rfl⟩ := r
    exact call_range_1 (range_it I1 (by omega) (by omega) q1 q2 (by simpa using q))
def tFor (wi : TI) (g : TG) (tb : TS) : TS := fun D σ H => wi σ H fun J H1 => ∃ W : Nat → Nat → St → Hp → Prop, (∃ m, W 0 m σ H1) ∧ ∀ i m σ H, W i m σ H →
  (J.stop i H ∧ D.nx σ H) ∨ (J.go i H ∧ ∃ N : St → Hp → Prop, (∀ σ' H', N σ' H' → ∃ m', m' < m ∧ W (i + 1) m' σ' H') ∧ ∀ x H', J.yld i H x H' → g x σ H' fun σ2 H2 => tb { D with nx := N, ct := N, bk := D.nx } σ2 H2)
def pinsAt (fp : List Addr) (h : Heap) : List (Addr × Obj) := fp.filterMap fun b => (h.get? b).map fun o => (b, o)
theorem mem_pinsAt {fp : List Addr} {h : Heap} {b : Addr} {o : Obj} (hb : b ∈ fp) (e : h.get? b = some o) : (b, o) ∈ pinsAt fp h := List.mem_filterMap.mpr ⟨b, hb, by rw [e]; rfl⟩
theorem of_pinsAt {fp : List Addr} {h : Heap} {p : Addr × Obj} (hp : p ∈ pinsAt fp h) : p.1 ∈ fp ∧ h.get? p.1 = some p.2 := by
  obtain ⟨b, hb, e⟩ := List.mem_filterMap.mp hp
  cases q : h.get? b with
  | none => rw [q] at e; cases e
  | some o =>
    rw [q] at e
    have e' : (b, o) = p := Option.some.inj e
    subst e'
    exact ⟨hb, q⟩
theorem Inv.pinned {pins : List (Addr × Obj)} {σ : St} {H : Hp} {s : Shared} {fp : List Addr} (I : Inv X pins σ H s) (hf : ∀ b ∈ fp, FpOk X pins H b) (ho : ∀ b ∈ fp, ∃ o, s.heap.get? b = some o ∧ ∀ v, o.data ≠ .cell v) : Inv X (pins ++ pinsAt fp s.heap) σ H s :=
  I.pins_of fun p hp => (List.mem_append.mp hp).elim (fun z => I.pin p (List.mem_append_right _ z)) fun z => by
    obtain ⟨hb, e⟩ := of_pinsAt z
    obtain ⟨f0, f1, f2, _⟩ := hf p.1 hb
    obtain ⟨o, e', d⟩ := ho p.1 hb
    rw [e] at e'; cases e'
    exact ⟨e, f0, f1, f2, d⟩
theorem Inv.unpinned {pins pl : List (Addr × Obj)} {σ : St} {H : Hp} {s : Shared} (I : Inv X (pins ++ pl) σ H s) : Inv X pins σ H s := I.pins_of fun p hp => I.pin p (List.mem_append_right _ (List.mem_append_left _ hp))
theorem ps_for {iter : Expr} {body : List Stmt} {wi : TI} {g : TG} {tb : TS} {pos : Pos} (hp : PassesOwn (model X.prog X.w) X.A X.env X.xe) (hc : X.calm = true) (hi : PI X tg iter wi) (hg : PG X tg g) (hb : PSs X body tb)
    (hs : ∀ x, foldedSetIterable iter X.env x = pure x := by intro _; rfl) : PS X (.For tg iter body [] pos) (tFor wi g tb) := by
  intro pins s σ H D I h
  refine wpAny_For (thn (hi pins s σ H _ I h) fun v s1 h1 => thn h1 fun itv s2 h2 => ?_) hs
  obtain ⟨it, fp, tn, J, H2, e, I2, T, st2, f2, W, ⟨m0, w0⟩, turn⟩ := h2
  subst e
  have stat : ∀ {H' : Hp}, (∀ b ∈ fp, H' b = none) → ∀ b ∈ fp, FpOk X pins H' b := fun hn b hb => ⟨hn b hb, (f2 b hb).2⟩
  refine codeAny_forLoop_any (fun n s' => ∃ i σ' H', Inv X pins σ' H' s' ∧ tn i s'.heap ∧ (∀ b ∈ fp, H' b = none) ∧ W i n σ' H') ?_ m0 ⟨0, σ, H2, I2, st2, fun b hb => (f2 b hb).1, w0⟩
  rintro n s3 ⟨i, σ3, H3, I3, st3, fr3, w3⟩
  rcases turn i n σ3 H3 w3 with ⟨stop, qn⟩ | ⟨go, N, hN, step⟩
  · refine wpAny_passesOwn hp (thn (T.done X rfl rfl rfl hc i pins s3 σ3 H3 X.xe I3 (stat fr3) st3 stop) fun r s4 ⟨hr, I4⟩ => ?_)
    subst hr
    exact wpAny_execs_nil ⟨σ3, H3, I4, qn⟩
  · refine wpAny_passesOwn hp (thn (T.item X rfl rfl rfl hc i pins s3 σ3 H3 X.xe I3 (stat fr3) st3 go) fun r s4 ⟨u, hr, h4⟩ => ?_)
    subst hr
    refine wpAny_passesOwn hp (thn h4 fun _ s5 ⟨x, H5, I5, r5, y5, st5, fr5⟩ => ?_)
    have I5' := I5.pinned (stat fr5) (T.obj _ _ st5)
    refine wpAny_passesOwn hp (thn (hg _ s5 σ3 H5 x u _ I5' r5 (step x H5 y5)) fun _ s6 ⟨σ6, H6, I6, q6⟩ => ?_)
    refine wpAny_passesOwn hp (thn (hb _ s6 σ6 H6 _ I6 q6) fun f s7 q7 => ?_)
    have again : ∀ {σ7 : St} {H7 : Hp}, Inv X (pins ++ pinsAt fp s5.heap) σ7 H7 s7 → N σ7 H7 → ∃ m, m < n ∧ ∃ i σ' H', Inv X pins σ' H' s7 ∧ tn i s7.heap ∧ (∀ b ∈ fp, H' b = none) ∧ W i m σ' H' := fun {σ7 H7} I7 n7 => by
      obtain ⟨m', hm, w7⟩ := hN σ7 H7 n7
      refine ⟨m', hm, i + 1, σ7, H7, I7.unpinned, T.keep _ _ _ st5 fun b hb o e => (I7.pin (b, o) (List.mem_append_right _ (List.mem_append_right _ (mem_pinsAt hb e)))).1, fun b hb => ?_, w7⟩
      obtain ⟨o, e, d⟩ := T.obj _ _ st5 b hb
      exact (I7.pin (b, o) (List.mem_append_right _ (List.mem_append_right _ (mem_pinsAt hb e)))).2.1
    cases f with
    | next => obtain ⟨σ7, H7, I7, n7⟩ := q7; exact again I7 n7
    | cont => obtain ⟨σ7, H7, I7, n7⟩ := q7; exact again I7 n7
    | brk => obtain ⟨σ7, H7, I7, q7⟩ := q7; exact ⟨σ7, H7, I7.unpinned, q7⟩
    | ret v => obtain ⟨x7, σ7, H7, I7, r7, q7⟩ := q7; exact ⟨x7, σ7, H7, I7.unpinned, r7, q7⟩
end
theorem for_list {K : PySem.W.Frag} {a : Addr} {xs : List V} {g : TG} {tb : TS} {D : Ends} {σ : St} {H : Hp} (Pv : Nat → St → Hp → Prop) (h0 : Pv 0 σ H) (hl : ∀ i σ H, i ≤ xs.length → Pv i σ H → SqL K H a xs)
    (hs : ∀ i x σ H, xs[i]? = some x → Pv i σ H → g x σ H fun σ2 H2 => tb { D with nx := Pv (i + 1), ct := Pv (i + 1), bk := D.nx } σ2 H2) (hd : ∀ σ H, Pv xs.length σ H → D.nx σ H) :
    ∃ W : Nat → Nat → St → Hp → Prop, (∃ m, W 0 m σ H) ∧ ∀ i m σ H, W i m σ H →
      ((Itl K a).stop i H ∧ D.nx σ H) ∨ ((Itl K a).go i H ∧ ∃ N : St → Hp → Prop, (∀ σ' H', N σ' H' → ∃ m', m' < m ∧ W (i + 1) m' σ' H') ∧ ∀ x H', (Itl K a).yld i H x H' → g x σ H' fun σ2 H2 => tb { D with nx := N, ct := N, bk := D.nx } σ2 H2) := by
  refine ⟨fun i m σ H => m = xs.length - i ∧ i ≤ xs.length ∧ Pv i σ H, ⟨xs.length, by simp, Nat.zero_le _, h0⟩, ?_⟩
  rintro i m σ H ⟨rfl, hi, p⟩
  have q := hl i σ H hi p
  by_cases hlt : i < xs.length
  · refine .inr ⟨⟨xs, xs[i], q, by simp [hlt]⟩, Pv (i + 1), fun σ' H' p' => ⟨xs.length - (i + 1), by omega, rfl, hlt, p'⟩, fun x H' y => ?_⟩
    obtain ⟨e, y⟩ := y
    subst e
    exact hs i x σ _ (y xs q) p
  · have e : i = xs.length := by omega
    subst e
    exact .inl ⟨⟨xs, q, Nat.le_refl _⟩, hd σ H p⟩
end L2
namespace L2
open PySem PySem.Spec PyProof.Rows
abbrev R2 := V → V → Hp → VK → Prop
def OpR (X : Cx) (f : Value → Value → Sem Value) (r : R2) : Prop :=
  ∀ (pins : List (Addr × Obj)) (s : Shared) (σ : St) (H : Hp) (x y : V) (v u : Value) (Q : VK), Inv X pins σ H s → RelV x v → RelV y u → r x y H Q →
    wpAny (model X.prog X.w) X.A (f v u) (EP X pins σ Q) X.xe s
def UnR (X : Cx) (f : Value → Sem Value) (r : V → Hp → VK → Prop) : Prop :=
  ∀ (pins : List (Addr × Obj)) (s : Shared) (σ : St) (H : Hp) (x : V) (v : Value) (Q : VK), Inv X pins σ H s → RelV x v → r x H Q →
    wpAny (model X.prog X.w) X.A (f v) (EP X pins σ Q) X.xe s
def CallR (X : Cx) (f : Value) (r : List V → Hp → VK → Prop) : Prop :=
  ∀ (pins : List (Addr × Obj)) (s : Shared) (σ : St) (H : Hp) (xs : List V) (us : List Value) (Q : VK), Inv X pins σ H s → Vals xs us → r xs H Q →
    wpAny (model X.prog X.w) X.A (call f us) (EP X pins σ Q) X.xe s
def tOp (r : R2) (ta tb : TE) : TE := fun σ H Q => ta σ H fun x H1 => tb σ H1 fun y H2 => r x y H2 Q
def tUn (r : V → Hp → VK → Prop) (ta : TE) : TE := fun σ H Q => ta σ H fun x H1 => r x H1 Q
def rI (C : Int → Int → Prop) (g : Int → Int → V) : R2 := fun x y H Q => ∃ i j, x = .int i ∧ y = .int j ∧ C i j ∧ Q (g i j) H
def rI0 (g : Int → Int → V) : R2 := fun x y H Q => ∃ i j, x = .int i ∧ y = .int j ∧ Q (g i j) H
def rU (g : Int → V) : V → Hp → VK → Prop := fun x H Q => ∃ i, x = .int i ∧ Q (g i) H
section
variable {X : Cx} {a b c : Expr} {ta tb tc : TE} {pos : Pos}
theorem binT (ha : PE X a ta) (hb : PE X b tb) {pins : List (Addr × Obj)} {s : Shared} {σ : St} {H : Hp} {R : V → V → Hp → Prop} (I : Inv X pins σ H s)
    (h : ta σ H fun x H1 => tb σ H1 fun y H2 => R x y H2) {Q : Value → Shared → Prop} {f : Value → Value → Sem Value}
    (hf : ∀ v u s2 x y H2, Inv X pins σ H2 s2 → RelV x v → RelV y u → R x y H2 → wpAny (model X.prog X.w) X.A (f v u) Q X.xe s2) :
    wpAny (model X.prog X.w) X.A (eval a X.env) (fun v s₁ => wpAny (model X.prog X.w) X.A (eval b X.env) (fun u s₂ => wpAny (model X.prog X.w) X.A (f v u) Q X.xe s₂) X.xe s₁) X.xe s := by
  refine thn (ha pins s σ H _ I h) fun v s1 ⟨x, H1, I1, r1, q1⟩ => ?_
  refine thn (hb pins s1 σ H1 _ I1 q1) fun u s2 ⟨y, H2, I2, r2, q2⟩ => ?_
  exact hf v u s2 x y H2 I2 r1 r2 q2
theorem pe_op {op : Operator} {r : R2} (ho : OpR X (binaryOp op) r) (ha : PE X a ta) (hb : PE X b tb) : PE X (.BinOp a op b pos) (tOp r ta tb) := by
  intro pins s σ H Q I h
  exact wpAny_BinOp (binT ha hb I h fun v u s2 x y H2 I2 rx ry q => ho pins s2 σ H2 x y v u Q I2 rx ry q)
theorem pe_un {op : UnaryOp} {r : V → Hp → VK → Prop} (ho : UnR X (unaryOp op) r) (ha : PE X a ta) : PE X (.UnaryOp op a pos) (tUn r ta) := by
  intro pins s σ H Q I h
  exact UnaryOp_ (thn (ha pins s σ H _ I h) fun v s1 ⟨x, H1, I1, r1, q1⟩ => ho pins s1 σ H1 x v Q I1 r1 q1)
theorem opI {f : Value → Value → Sem Value} {C : Int → Int → Prop} {g : Int → Int → Int}
    (rule : ∀ (i j : Int) (t u : Tok) (s : Shared) (Q : Value → Shared → Prop) (E : Value → Shared → Prop), C i j → Q (.int (g i j) s.toks) { s with toks := s.toks + 1 } → wpAny (model X.prog X.w) X.A (f (.int i t) (.int j u)) Q E s) :
    OpR X f (rI C fun i j => .int (g i j)) := by
  intro pins s σ H x y v u Q I rx ry h
  obtain ⟨i, j, rfl, rfl, hc, q⟩ := h
  obtain ⟨t, rfl⟩ := rx
  obtain ⟨t', rfl⟩ := ry
  exact rule i j t t' s _ _ hc ⟨.int (g i j), H, I.tok _, ⟨_, rfl⟩, q⟩
theorem opI0 {f : Value → Value → Sem Value} {g : Int → Int → Int}
    (rule : ∀ (i j : Int) (t u : Tok) (s : Shared) (Q : Value → Shared → Prop) (E : Value → Shared → Prop), Q (.int (g i j) s.toks) { s with toks := s.toks + 1 } → wpAny (model X.prog X.w) X.A (f (.int i t) (.int j u)) Q E s) :
    OpR X f (rI0 fun i j => .int (g i j)) := by
  intro pins s σ H x y v u Q I rx ry h
  obtain ⟨i, j, rfl, rfl, q⟩ := h
  obtain ⟨t, rfl⟩ := rx
  obtain ⟨t', rfl⟩ := ry
  exact rule i j t t' s _ _ ⟨.int (g i j), H, I.tok _, ⟨_, rfl⟩, q⟩
theorem opB0 {f : Value → Value → Sem Value} {g : Int → Int → Bool}
    (rule : ∀ (i j : Int) (t u : Tok) (s : Shared) (Q : Value → Shared → Prop) (E : Value → Shared → Prop), Q (.bool (g i j)) s → wpAny (model X.prog X.w) X.A (f (.int i t) (.int j u)) Q E s) :
    OpR X f (rI0 fun i j => .bl (g i j)) := by
  intro pins s σ H x y v u Q I rx ry h
  obtain ⟨i, j, rfl, rfl, q⟩ := h
  obtain ⟨t, rfl⟩ := rx
  obtain ⟨t', rfl⟩ := ry
  exact rule i j t t' s _ _ ⟨.bl (g i j), H, I, rfl, q⟩
def CDiv (i j : Int) : Prop := 0 < j ∧ j < 1073741824
def CMul (i j : Int) : Prop := (-(2 ^ 64) < i ∧ i < 2 ^ 64) ∨ (-(2 ^ 64) < j ∧ j < 2 ^ 64)
theorem CMul.ok {i j : Int} (h : CMul i j) : IntMulOk i j := by
  rcases h with ⟨h1, h2⟩ | ⟨h1, h2⟩
  · exact .of_left (intBits_le_64 h1 h2)
  · exact .of_right (intBits_le_64 h1 h2)
theorem op_add : OpR X (binaryOp .Add) (rI0 fun i j => .int (i + j)) := opI0 fun _ _ _ _ _ _ _ q => add_int q
theorem op_sub : OpR X (binaryOp .Sub) (rI0 fun i j => .int (i - j)) := opI0 fun _ _ _ _ _ _ _ q => sub_int q
theorem op_mul : OpR X (binaryOp .Mult) (rI CMul fun i j => .int (i * j)) := opI fun _ _ _ _ _ _ _ hc q => mul_int q hc.ok
theorem op_fdiv : OpR X (binaryOp .FloorDiv) (rI CDiv fun i j => .int (i / j)) := opI fun i j _ _ _ _ _ hc q => by
  have h1 : (0 : Int) < j := hc.1
  have h2 : j < 1073741824 := hc.2
  exact floordiv_int (by omega) (by rw [Int.fdiv_eq_ediv_of_nonneg i (by omega)]; exact q) (.inl (PyProof.noPylong_small (by omega)))
theorem op_mod : OpR X (binaryOp .Mod) (rI (fun _ j => 0 < j) fun i j => .int (i % j)) := opI fun i j _ _ _ _ _ hc q => by
  have h1 : (0 : Int) < j := hc
  exact mod_int' (by omega) (by rw [Int.fmod_eq_emod_of_nonneg i (by omega)]; exact q)
theorem unI {f : Value → Sem Value} {g : Int → Int}
    (rule : ∀ (i : Int) (t : Tok) (s : Shared) (Q : Value → Shared → Prop) (E : Value → Shared → Prop), Q (.int (g i) s.toks) { s with toks := s.toks + 1 } → wpAny (model X.prog X.w) X.A (f (.int i t)) Q E s) :
    UnR X f (rU fun i => .int (g i)) := by
  intro pins s σ H x v Q I rx h
  obtain ⟨i, rfl, q⟩ := h
  obtain ⟨t, rfl⟩ := rx
  exact rule i t s _ _ ⟨.int (g i), H, I.tok _, ⟨_, rfl⟩, q⟩
theorem un_neg : UnR X (unaryOp .USub) (rU fun i => .int (-i)) := unI fun _ _ _ _ _ q => neg_int q
end
def scal : V → V → Bool
  | .non, .non => true | .non, .int _ => true | .int _, .non => true | .non, .bl _ => true | .bl _, .non => true | .non, .str _ => true | .str _, .non => true
  | .int _, .int _ => true | .bl _, .bl _ => true | .str _, .str _ => true | .byt _, .byt _ => true
  | .int _, .str _ => true | .str _, .int _ => true | .bl _, .str _ => true | .str _, .bl _ => true
  | _, _ => false
def rEq : R2 := fun x y H Q => scal x y = true ∧ Q (.bl (decide (x = y))) H
def rNe : R2 := fun x y H Q => scal x y = true ∧ Q (.bl (!decide (x = y))) H
theorem dec_int {i j : Int} : decide (V.int i = V.int j) = (i == j) := by
  rw [Bool.eq_iff_iff]
  simp
theorem dec_bl {i j : Bool} : decide (V.bl i = V.bl j) = (i == j) := by
  rw [Bool.eq_iff_iff]
  simp
theorem dec_str {i j : Str} : decide (V.str i = V.str j) = (i == j) := by
  rw [Bool.eq_iff_iff]
  simp
theorem dec_byt {i j : Array UInt8} : decide (V.byt i = V.byt j) = (i.toList == j.toList) := by
  rw [Bool.eq_iff_iff]
  cases i
  cases j
  simp
section
variable {X : Cx} {a b c : Expr} {ta tb tc : TE} {pos : Pos}
theorem fin_bl {pins : List (Addr × Obj)} {σ : St} {H : Hp} {s : Shared} {Q : VK} {k k' : Bool} (I : Inv X pins σ H s) (q : Q (.bl k) H) (e : k = k') : EP X pins σ Q (.bool k') s := by
  subst e
  exact ⟨.bl k, H, I, rfl, q⟩
theorem op_eq : OpR X (compareOp .Eq) rEq := by
  intro pins s σ H x y v u Q I rx ry h
  obtain ⟨hs, q⟩ := h
  cases x with
  | non =>
    cases rx
    cases y with
    | non => cases ry; exact PySem.EqNone.eq_none_none (fin_bl I q (by simp))
    | bl j => cases ry; exact PySem.EqNone.eq_none_bool (fin_bl I q (by simp))
    | int j => obtain ⟨t', rfl⟩ := ry; exact PySem.EqNone.eq_none_int (fin_bl I q (by simp))
    | str j => obtain ⟨t', rfl⟩ := ry; exact PySem.EqNone.eq_none_str (fin_bl I q (by simp))
    | _ => exact absurd (show false = true from hs) Bool.false_ne_true
  | bl i =>
    cases rx
    cases y with
    | non => cases ry; exact PySem.EqNone.eq_bool_none (fin_bl I q (by simp))
    | bl j => cases ry; exact eq_bool (fin_bl I q dec_bl)
    | str j => obtain ⟨t', rfl⟩ := ry; exact PySem.EqMixed.eq_bool_str (fin_bl I q (by simp))
    | _ => exact absurd (show false = true from hs) Bool.false_ne_true
  | int i =>
    obtain ⟨t, rfl⟩ := rx
    cases y with
    | non => cases ry; exact PySem.EqNone.eq_int_none (fin_bl I q (by simp))
    | int j => obtain ⟨t', rfl⟩ := ry; exact eq_int (fin_bl I q dec_int)
    | str j => obtain ⟨t', rfl⟩ := ry; exact PySem.EqMixed.eq_int_str (fin_bl I q (by simp))
    | _ => exact absurd (show false = true from hs) Bool.false_ne_true
  | str i =>
    obtain ⟨t, rfl⟩ := rx
    cases y with
    | non => cases ry; exact PySem.EqNone.eq_str_none (fin_bl I q (by simp))
    | bl j => cases ry; exact PySem.EqMixed.eq_str_bool (fin_bl I q (by simp))
    | int j => obtain ⟨t', rfl⟩ := ry; exact PySem.EqMixed.eq_str_int (fin_bl I q (by simp))
    | str j => obtain ⟨t', rfl⟩ := ry; exact eq_str (fin_bl I q dec_str)
    | _ => exact absurd (show false = true from hs) Bool.false_ne_true
  | byt i =>
    obtain ⟨t, rfl⟩ := rx
    cases y with
    | byt j => obtain ⟨t', rfl⟩ := ry; exact PySem.W.eq_bytes (fin_bl I q dec_byt)
    | _ => exact absurd (show false = true from hs) Bool.false_ne_true
  | _ => cases y <;> exact absurd (show false = true from hs) Bool.false_ne_true
theorem op_ne : OpR X (compareOp .NotEq) rNe := by
  intro pins s σ H x y v u Q I rx ry h
  obtain ⟨hs, q⟩ := h
  cases x with
  | non =>
    cases rx
    cases y with
    | non => cases ry; exact PySem.EqNone.ne_none_none (fin_bl I q (by simp))
    | bl j => cases ry; exact PySem.EqNone.ne_none_bool (fin_bl I q (by simp))
    | int j => obtain ⟨t', rfl⟩ := ry; exact PySem.EqNone.ne_none_int (fin_bl I q (by simp))
    | str j => obtain ⟨t', rfl⟩ := ry; exact PySem.EqNone.ne_none_str (fin_bl I q (by simp))
    | _ => exact absurd (show false = true from hs) Bool.false_ne_true
  | bl i =>
    cases rx
    cases y with
    | non => cases ry; exact PySem.EqNone.ne_bool_none (fin_bl I q (by simp))
    | bl j => cases ry; exact ne_bool (fin_bl I q (congrArg not dec_bl))
    | str j => obtain ⟨t', rfl⟩ := ry; exact PySem.EqMixed.ne_bool_str (fin_bl I q (by simp))
    | _ => exact absurd (show false = true from hs) Bool.false_ne_true
  | int i =>
    obtain ⟨t, rfl⟩ := rx
    cases y with
    | non => cases ry; exact PySem.EqNone.ne_int_none (fin_bl I q (by simp))
    | int j => obtain ⟨t', rfl⟩ := ry; exact ne_int (fin_bl I q (congrArg not dec_int))
    | str j => obtain ⟨t', rfl⟩ := ry; exact PySem.EqMixed.ne_int_str (fin_bl I q (by simp))
    | _ => exact absurd (show false = true from hs) Bool.false_ne_true
  | str i =>
    obtain ⟨t, rfl⟩ := rx
    cases y with
    | non => cases ry; exact PySem.EqNone.ne_str_none (fin_bl I q (by simp))
    | bl j => cases ry; exact PySem.EqMixed.ne_str_bool (fin_bl I q (by simp))
    | int j => obtain ⟨t', rfl⟩ := ry; exact PySem.EqMixed.ne_str_int (fin_bl I q (by simp))
    | str j => obtain ⟨t', rfl⟩ := ry; exact ne_str (fin_bl I q (congrArg not dec_str))
    | _ => exact absurd (show false = true from hs) Bool.false_ne_true
  | byt i =>
    obtain ⟨t, rfl⟩ := rx
    cases y with
    | byt j => obtain ⟨t', rfl⟩ := ry; exact PySem.W.ne_bytes (fin_bl I q (congrArg not dec_byt))
    | _ => exact absurd (show false = true from hs) Bool.false_ne_true
  | _ => cases y <;> exact absurd (show false = true from hs) Bool.false_ne_true
theorem op_le : OpR X (compareOp .LtE) (rI0 fun i j => .bl (decide (i ≤ j))) := opB0 fun _ _ _ _ _ _ _ q => le_int q
theorem op_ge : OpR X (compareOp .GtE) (rI0 fun i j => .bl (decide (j ≤ i))) := opB0 fun _ _ _ _ _ _ _ q => ge_int q
theorem nomark (b : Expr) {op : CmpOp} (h : op ≠ .In := by decide) (h2 : op ≠ .NotIn := by decide) : behindInMarks op b = false := by
  have e1 : (op == CmpOp.In) = false := by cases op <;> first | rfl | exact absurd rfl h
  have e2 : (op == CmpOp.NotIn) = false := by cases op <;> first | rfl | exact absurd rfl h2
  cases b <;> simp [behindInMarks, e1, e2]
theorem pe_cmpR {op : CmpOp} {r : R2} (ho : OpR X (compareOp op) r) (ha : PE X a ta) (hb : PE X b tb) (hm : behindInMarks op b = false) : PE X (.Compare a [op] [b] pos) (tOp r ta tb) := by
  intro pins s σ H Q I h
  exact wpAny_Compare1 (binT ha hb I h fun v u s2 x y H2 I2 rx ry q => ho pins s2 σ H2 x y v u Q I2 rx ry q) hm
def tTest (t : TE) : TT := fun σ H Q => t σ H fun x H' => ∃ k, x = .bl k ∧ Q k H'
theorem pt_cmpR {op : CmpOp} {r : R2} (ho : OpR X (compareOp op) r) (ha : PE X a ta) (hb : PE X b tb) (hm : behindInMarks op b = false) : PT X (.Compare a [op] [b] pos) (tTest (tOp r ta tb)) := by
  intro pins s σ H Q I h
  refine wpAny_isTrue_Compare1 (thn (ha pins s σ H _ I h) fun v s1 ⟨x, H1, I1, r1, q1⟩ => thn (hb pins s1 σ H1 _ I1 q1) fun u s2 ⟨y, H2, I2, r2, q2⟩ =>
    thn (ho pins s2 σ H2 x y v u _ I2 r1 r2 q2) fun c s3 ⟨z, H3, I3, r3, k, e, q3⟩ => ?_) hm
  subst e
  cases r3
  exact wpAny_truthy_bool ⟨H3, I3, q3⟩
theorem line63 : (sizeLine : Nat) < 2 ^ 63 := by rw [sizeLine_eq]; decide
theorem op_add_str : OpR X (binaryOp .Add) (fun x y H Q => ∃ i j, x = .str i ∧ y = .str j ∧ i.length + j.length ≤ sizeLine ∧ Q (.str (i ++ j)) H) := by
  intro pins s σ H x y v u Q I rx ry h
  obtain ⟨i, j, rfl, rfl, hz, q⟩ := h
  obtain ⟨t, rfl⟩ := rx
  obtain ⟨t', rfl⟩ := ry
  exact add_str (fun t' tk => ⟨.str (i ++ j), H, I.tok _, ⟨_, rfl⟩, q⟩) hz
theorem vals1 {x : V} {us : List Value} (r : Vals [x] us) : ∃ u, us = [u] ∧ RelV x u := by
  cases r with
  | cons r1 r2 => cases r2; exact ⟨_, rfl, r1⟩
theorem vals2 {x y : V} {us : List Value} (r : Vals [x, y] us) : ∃ u w', us = [u, w'] ∧ RelV x u ∧ RelV y w' := by
  cases r with
  | cons r1 r2 =>
    cases r2 with
    | cons r3 r4 => cases r4; exact ⟨_, _, rfl, r1, r3⟩
end
end L2
namespace L2
open PySem PySem.Spec PyProof.Rows
structure ObjM (h : Heap) (x dx C : Addr) (mA : Str → Option Value) : Prop where
  obj : h.get? x = some (PySem.W.instObj C dx)
  ns : h.Ns1 dx mA
  ne : dx ≠ x
theorem lookIn_ns {h : Heap} {dx : Addr} {mA : Str → Option Value} (n : h.Ns1 dx mA) : ∃ od, h.get? dx = some od ∧ ∀ name, PySem.W.lookIn name od = some (mA name) := by
  obtain ⟨o, es, ep, ho, hd, hk, _, hm⟩ := n
  refine ⟨o, ho, fun name => ?_⟩
  have e := hm name
  unfold nsFind findBy at e
  rw [← Array.find?_toList] at e
  unfold PySem.W.lookIn
  rw [hd]
  dsimp only
  split
  · rename_i y q
    rw [q] at e
    exact congrArg some e
  · rename_i q
    rw [q] at e
    have a : es.toList.any (·.refKey) = false := by
      rw [List.any_eq_false]
      intro y hy
      obtain ⟨z, t, hkey⟩ := hk y (Array.mem_toList_iff.mp hy)
      simp [DictEntry.refKey, hkey]
    have a' : ¬ es.toList.any (·.refKey) = true := by rw [a]; exact Bool.false_ne_true
    rw [if_neg a']
    exact congrArg some e
theorem ObjM.look {h : Heap} {x dx C : Addr} {mA : Str → Option Value} (I : ObjM h x dx C mA) : ∃ od, PySem.W.InstAt h x (PySem.W.instObj C dx) C (some od) ∧ ∀ name, PySem.W.lookIn name od = some (mA name) :=
  let ⟨od, ho, hl⟩ := lookIn_ns I.ns
  ⟨od, ⟨I.obj, rfl, rfl, ho⟩, hl⟩
section
variable {prog : Program} {w : World} {A : Around} {E : Value → Shared → Prop} {s : Shared} {K : PySem.W.Frag} {x dx C f : Addr} {mA : Str → Option Value} {name : Str} {v : Value}
theorem set_map {ns : List Str} {Q : Unit → Shared → Prop} (X : K.In s.heap) (I : ObjM s.heap x dx C mA)
    (hs : PySem.W.findIn K (.ref C) "__setattr__" = some (some (.builtin "object.__setattr__"))) (hp : PySem.W.plainOver K C = true) (ht : PySem.W.takerIn K C name = some none) (hh : PySem.W.hasDictIn K C = true)
    (hw : PySem.Within mA ns) (hsz : ns.length ≤ sizeLine)
    (h : ∀ h', ObjM h' x dx C (fun y => if y = name then some v else mA y) → Heap.SameBut dx s.heap h' → Q () { s with heap := h', toks := s.toks + 2 }) :
    wpAny (model prog w) A (setAttr (.ref x) name v) Q E s := by
  obtain ⟨od, J, hl⟩ := I.look
  refine PySem.W.set_plain X J hs (PySem.W.osa_open (s := { s with toks := s.toks + 1 }) (r := none) X J hp ht fun b => ?_)
  obtain ⟨cd, hc, hd'⟩ := PySem.W.any_some hh
  have hx : s.heap.get? x = some ⟨.ref C, some dx, .plain, #[]⟩ := I.obj
  refine wpAny_bind (wpAny_pure (wpAny_bind (wpAny_bind (wpAny_loadPart hx (wpAny_bind (PySem.W.Looks.here (s := { s with toks := s.toks + 1 }) (PySem.W.looks_clsIn X hc) ?_))))))
  rw [hd']
  refine wpAny_pure (a := some dx) (wpAny_bind (wpAny_pure (wpAny_bind ?_)))
  refine wpAny_nsSet1 (s := { s with toks := s.toks + 1 }) I.ns fun h' hn2 hs2 => ?_
  obtain ⟨oD, esD, epD, hoD, hdD, hcD⟩ := hn2.count (PySem.Within.cons name v hw)
  refine wpAny_bind (wpAny_lookBehind hoD (by rw [hdD]; exact pastItsLine_dict (Nat.le_trans hcD (by rw [List.length_cons]; omega))) ?_)
  exact wpAny_pure (h _ ⟨(hs2.2 _ (Ne.symm I.ne)).trans I.obj, hn2, I.ne⟩ hs2)
theorem make_map {R : Result → Shared → Prop} {vs : List Value} {kw : List (Str × Value)} (X : K.In s.heap) (hm : PySem.W.makesIn K C = true)
    (hi : PySem.W.findIn K (.ref C) "__init__" = some (some (.ref f))) (hf : PySem.W.typeIn K (.ref f) = some (.type "function"))
    (h : codeAny (model prog w) (A.under (.builtin "type.__call__" ⟨.ref C :: vs, kw⟩)) (.call (.ref f) ⟨.ref (s.heap.objs.size + 1) :: vs, kw⟩) (PySem.W.InitBack (s.heap.objs.size + 1) R)
      { s with heap := (s.heap.push PySem.W.emptyDict).push (PySem.W.instObj C s.heap.objs.size) }) :
    codeAny (model prog w) A (.call (.ref C) ⟨vs, kw⟩) R s := by
  obtain ⟨hh, g, d, t, os⟩ := s
  exact PySem.W.make_core (PySem.W.makes_of X hm) (PySem.W.looks_findIn X hi) (fun self => PySem.W.bind_fn X self hf) (.inl rfl) h
end
def putF (f : Str) (v : V) : List (Str × V) → List (Str × V)
  | [] => [(f, v)]
  | (g, x) :: r => if g = f then (g, v) :: r else (g, x) :: putF f v r
theorem lookup_putF (f g : Str) (v : V) : ∀ fs : List (Str × V), (putF f v fs).lookup g = if g = f then some v else fs.lookup g
  | [] => by
    show List.lookup g [(f, v)] = _
    by_cases h : g = f
    · have hb : (g == f) = true := beq_iff_eq.mpr h
      simp only [List.lookup, hb, if_pos h]
    · have hb : (g == f) = false := beq_eq_false_iff_ne.mpr h
      simp only [List.lookup, hb, if_neg h]
  | (k, x) :: r => by
    have ih := lookup_putF f g v r
    rw [show putF f v ((k, x) :: r) = (if k = f then (k, v) :: r else (k, x) :: putF f v r) from rfl]
    by_cases hk : k = f
    · rw [if_pos hk]
      by_cases h : g = k
      · have hb : (g == k) = true := beq_iff_eq.mpr h
        simp only [List.lookup, hb, if_pos (h.trans hk)]
      · have hb : (g == k) = false := beq_eq_false_iff_ne.mpr h
        simp only [List.lookup, hb, if_neg (fun e : g = f => h (e.trans hk.symm))]
    · rw [if_neg hk]
      by_cases h : g = k
      · have hb : (g == k) = true := beq_iff_eq.mpr h
        simp only [List.lookup, hb, if_neg (fun e : g = f => hk (h.symm.trans e))]
      · have hb : (g == k) = false := beq_eq_false_iff_ne.mpr h
        simp only [List.lookup, hb]
        exact ih
theorem keys_putF (f : Str) (v : V) : ∀ fs : List (Str × V), f ∈ (putF f v fs).map (·.1) ∧ ∀ g, g ∈ fs.map (·.1) → g ∈ (putF f v fs).map (·.1)
  | [] => ⟨by simp [putF], fun g h => by simp at h⟩
  | (k, x) :: r => by
    obtain ⟨i1, i2⟩ := keys_putF f v r
    rw [show putF f v ((k, x) :: r) = (if k = f then (k, v) :: r else (k, x) :: putF f v r) from rfl]
    by_cases hk : k = f
    · rw [if_pos hk]
      subst hk
      exact ⟨by simp, fun g h => by simpa using h⟩
    · rw [if_neg hk]
      refine ⟨?_, fun g h => ?_⟩
      · rw [List.map_cons]
        exact List.mem_cons_of_mem _ i1
      · rw [List.map_cons] at h ⊢
        rcases List.mem_cons.mp h with e | e
        · exact List.mem_cons.mpr (.inl e)
        · exact List.mem_cons_of_mem _ (i2 g e)
theorem length_putF (f : Str) (v : V) : ∀ fs : List (Str × V), (putF f v fs).length ≤ fs.length + 1
  | [] => by simp [putF]
  | (k, x) :: r => by
    have ih := length_putF f v r
    rw [show putF f v ((k, x) :: r) = (if k = f then (k, v) :: r else (k, x) :: putF f v r) from rfl]
    by_cases hk : k = f
    · rw [if_pos hk, List.length_cons, List.length_cons]; omega
    · rw [if_neg hk, List.length_cons, List.length_cons]; omega
theorem RelO.some_of {v : V} {o : Option Value} (r : RelO (some v) o) : ∃ u, o = some u ∧ RelV v u := by
  cases o with
  | none => exact (show False from r).elim
  | some u => exact ⟨u, rfl, r⟩
section
variable {P : Program} {w : World} {H H' : Hp} {h h' : Heap} {a C dx : Addr} {fs fs' : List (Str × V)}
theorem ins_get (hok : HOk P w H h) (e : H a = some (.ins C dx fs)) : ∃ mA, ObjM h a dx C mA ∧ (∀ f, RelO (fs.lookup f) (mA f)) ∧ PySem.Within mA (fs.map (·.1)) ∧ fs.length ≤ 1000 ∧ H dx = some (.own a) := by
  obtain ⟨d, z, ne, ob, mA, n, r, q⟩ := (show ObjOk P w H h a (.ins C dx fs) from hok a _ e)
  exact ⟨mA, ⟨ob, n, ne⟩, r, q, z, d⟩
end
structure Cls (K : PySem.W.Frag) (C : Addr) : Prop where
  pg : PySem.W.plainGet K C Str.empty = true
  hd : PySem.W.hasDictIn K C = true
  po : PySem.W.plainOver K C = true
  sa : PySem.W.findIn K (.ref C) "__setattr__" = some (some (.builtin "object.__setattr__"))
theorem Cls.get {K : PySem.W.Frag} {C : Addr} (c : Cls K C) (f : Str) : PySem.W.plainGet K C f = true := c.pg
def NoAttr (K : PySem.W.Frag) (C : Addr) (f : Str) : Prop := PySem.W.findIn K (.ref C) f = some none
theorem NoAttr.taker {K : PySem.W.Frag} {C : Addr} {f : Str} (n : NoAttr K C f) : PySem.W.takerIn K C f = some none := by
  unfold PySem.W.takerIn
  rw [show PySem.W.findIn K (.ref C) f = some none from n]
  rfl
structure Con (K : PySem.W.Frag) (C : Addr) (f : Str) (v : V) (u : Value) : Prop where
  at_ : PySem.W.findIn K (.ref C) f = some (some u)
  rel : RelV v u
  get : PySem.W.specialIn K u "__get__" = some none
  cp : PySem.W.copiedNames.contains f = false
structure Meth (K : PySem.W.Frag) (C : Addr) (m : Str) (f : Addr) : Prop where
  at_ : PySem.W.findIn K (.ref C) m = some (some (.ref f))
  fn : PySem.W.isFn K (.ref f) = true
  kp : PySem.W.keepIn K (.ref f) = true
section
variable {X : Cx} {pins : List (Addr × Obj)} {σ : St} {H : Hp} {s : Shared} {a C dx : Addr} {fs : List (Str × V)} {f : Str} {v : V} {A : Around} {E : Value → Shared → Prop}
theorem setattr_ok {y : V} {u : Value} {Q : Unit → Shared → Prop} (I : Inv X pins σ H s) (e : H a = some (.ins C dx fs)) (c : Cls X.K C) (n : NoAttr X.K C f) (hl : fs.length < 1000) (ry : RelV y u)
    (h : ∀ s', Inv X pins σ (upd H a (.ins C dx (putF f y fs))) s' → Q () s') : wpAny (model X.prog X.w) A (setAttr (.ref a) f u) Q E s := by
  obtain ⟨mA, O, r, wi, _, ho⟩ := ins_get I.hok e
  have hz : (fs.map (·.1)).length ≤ sizeLine := by rw [List.length_map, sizeLine_eq]; omega
  refine set_map I.kIn O c.sa c.po n.taker c.hd wi hz fun h' O' sb => h _ ?_
  have hd : ∃ o, h'.get? dx = some o := let ⟨o, _, _, e', _⟩ := O'.ns; ⟨o, e'⟩
  refine I.write (x := a) (e := dx) (by rw [e]; exact True.intro) (.inr ho) (fun b q hb z => (sb.2 b hb).trans z) hd ?_
  refine ⟨by rw [upd_ne O.ne]; exact ho, ?_, O.ne, O'.obj, _, O'.ns, fun g => ?_, fun g hg => ?_⟩
  · have := length_putF f y fs; omega
  · show RelO ((putF f y fs).lookup g) (if g = f then some u else mA g)
    rw [lookup_putF]
    by_cases q : g = f
    · rw [if_pos q, if_pos q]; exact ry
    · rw [if_neg q, if_neg q]; exact r g
  · by_cases q : g = f
    · rw [q]; exact (keys_putF f y fs).1
    · refine (keys_putF f y fs).2 g (wi g fun z => hg ?_)
      show (if g = f then some u else mA g) = none
      rw [if_neg q]; exact z
theorem Inv.made (I : Inv X pins σ H s) : Inv X pins σ (upd (upd H s.heap.objs.size (.own (s.heap.objs.size + 1))) (s.heap.objs.size + 1) (.ins C s.heap.objs.size []))
    { s with heap := (s.heap.push PySem.W.emptyDict).push (PySem.W.instObj C s.heap.objs.size) } := by
  have e1 : (s.heap.push PySem.W.emptyDict).get? s.heap.objs.size = some PySem.W.emptyDict := Heap.get?_push_size s.heap rfl
  have e2 : ((s.heap.push PySem.W.emptyDict).push (PySem.W.instObj C s.heap.objs.size)).get? (s.heap.objs.size + 1) = some (PySem.W.instObj C s.heap.objs.size) := by
    have := Heap.get?_push_size (s.heap.push PySem.W.emptyDict) (o := PySem.W.instObj C s.heap.objs.size) rfl
    rwa [Heap.size_push] at this
  have e3 : (s.heap.push PySem.W.emptyDict).Ns s.heap.objs.size (fun _ => none) := ⟨PySem.W.emptyDict, #[], _, e1, rfl, (fun e he => absurd he (by simp)), fun _ => rfl⟩
  have I1 := I.laid (a := s.heap.objs.size) (o := .own (s.heap.objs.size + 1)) (h' := s.heap.push PySem.W.emptyDict) (t' := s.toks) (fun b u q => Heap.get?_push_of_some _ q) (Nat.le_refl _) ⟨_, e1⟩
  refine I1.laid (a := s.heap.objs.size + 1) (o := .ins C s.heap.objs.size []) (t' := s.toks) (fun b u q => Heap.get?_push_of_some _ q) (Nat.le_of_eq (Heap.size_push _ _)) ?_
  have ne : s.heap.objs.size ≠ s.heap.objs.size + 1 := Nat.ne_of_lt (Nat.lt_succ_self _)
  refine ⟨by rw [upd_ne ne, upd_same], Nat.zero_le _, ne, e2, fun _ => none, (Heap.Ns1.of_empty e3).at fun o q => Heap.get?_push_of_some _ q, fun _ => True.intro, fun y hy => absurd rfl hy⟩
end
def sFld (K : PySem.W.Frag) (ta tv : TE) (f : Str) : TS := fun D σ H => tv σ H fun y H1 => ta σ H1 fun x H2 => ∃ a C dx fs, x = .ref a ∧ H2 a = some (.ins C dx fs) ∧ Cls K C ∧ NoAttr K C f ∧ fs.length < 1000 ∧
  D.nx σ (upd H2 a (.ins C dx (putF f y fs)))
section
variable {X : Cx} {o e value : Expr} {f : Str} {pos pos' tpos : Pos} {ta tv : TE}
theorem ps_fld (ha : PE X o ta) (hv : PE X value tv) (hs : swapsWith value (some (.Attribute o f pos')) pos.line X.env = pure false) : PS X (.Assign [.Attribute o f pos'] value pos) (sFld X.K ta tv f) := by
  intro pins s σ H D I h
  refine plainObj_wpAny_Assign_Attribute (thn (hv pins s σ H _ I h) fun u s1 ⟨y, H1, I1, ry, q⟩ => thn (ha pins s1 σ H1 _ I1 q) fun ov s2 ⟨x, H2, I2, rx, a, C, dx, fs, ex, ea, c, n, l, q2⟩ => ?_) hs
  subst ex
  obtain rfl : ov = Value.ref a := rx
  exact setattr_ok I2 ea c n l ry fun s3 I3 => ⟨σ, _, I3, q2⟩
end
section
variable {X : Cx} {pins : List (Addr × Obj)} {σ : St} {H : Hp} {s : Shared} {A : Around} {E : Value → Shared → Prop} {Q : Value → Shared → Prop} {c : Value} {b : Bool}
inductive TyOf (K : PySem.W.Frag) (H : Hp) : V → Value → Prop where
  | non : TyOf K H .non (.type "NoneType")
  | bl (x : Bool) : TyOf K H (.bl x) (.type "bool")
  | int (i : Int) : TyOf K H (.int i) (.type "int")
  | str (x : Str) : TyOf K H (.str x) (.type "str")
  | flt (x : UInt64) : TyOf K H (.flt x) (.type "float")
  | lst {a : Addr} {xs : List V} (e : H a = some (.lst xs)) : TyOf K H (.ref a) (.type "list")
  | frz {a : Addr} {o : Obj} {xs : List V} (e : H a = some (.frz o (.lst xs))) : TyOf K H (.ref a) (.type "list")
  | tup {a : Addr} {xs : List V} (e : H a = some (.tup xs)) : TyOf K H (.ref a) (.type "tuple")
  | dK {a : Addr} {kvs : List (Key × V)} (e : H a = some (.dK kvs)) : TyOf K H (.ref a) (.type "dict")
  | dT {a : Addr} {kvs : List (List Key × V)} (e : H a = some (.dT kvs)) : TyOf K H (.ref a) (.type "dict")
  | ins {a C dx : Addr} {fs : List (Str × V)} (e : H a = some (.ins C dx fs)) (cl : Cls K C) (ha : PySem.W.findIn K (.ref C) "__class__" = some (some (.builtin "object.__class__")))
      (hn : PySem.W.specialIn K (.builtin "object.__class__") "__get__" = some (some (.builtin "getset_descriptor.__get__"))) (htk : PySem.W.takesIn K (.builtin "object.__class__") = some true)
      (hm : PySem.W.mroIn K C (.type "object") = some true) : TyOf K H (.ref a) (.ref C)
theorem isinst_ok {x : V} {u t : Value} (I : Inv X pins σ H s) (rx : RelV x u) (ty : TyOf X.K H x t) (e : PySem.W.kitOne X.K t c = some b) (h : ∀ tk, Q (.bool b) { s with toks := tk }) :
    wpAny (model X.prog X.w) A (call (.builtin "isinstance") [u, c]) Q E s := by
  cases ty with
  | non => cases (show u = Value.none from rx); exact PySem.W.kia_one PySem.W.kitx_none I.kIn True.intro e (fun z => nomatch z) h
  | bl y => cases (show u = Value.bool y from rx); exact PySem.W.kia_one PySem.W.kitx_bool I.kIn True.intro e (fun z => nomatch z) h
  | int i => obtain ⟨t, q⟩ := (show ∃ t, u = Value.int i t from rx); cases q; exact PySem.W.kia_one PySem.W.kitx_int I.kIn True.intro e (fun z => nomatch z) h
  | str y => obtain ⟨t, q⟩ := (show ∃ t, u = Value.str y t from rx); cases q; exact PySem.W.kia_one PySem.W.kitx_str I.kIn True.intro e (fun z => nomatch z) h
  | flt y => obtain ⟨t, q⟩ := (show ∃ t, u = Value.float y t from rx); cases q; exact PySem.W.kia_one PySem.W.kitx_float I.kIn True.intro e (fun z => nomatch z) h
  | @lst a xs ea =>
    cases (show u = Value.ref a from rx)
    obtain ⟨_, _, n, _, h1⟩ := (show ObjOk X.prog X.w H s.heap a (.lst xs) from I.hok a _ ea)
    exact PySem.W.kia_one PySem.W.kitx_list I.kIn ⟨_, h1, rfl⟩ e (fun z => nomatch z) h
  | @frz a ob xs ea =>
    cases (show u = Value.ref a from rx)
    obtain ⟨_, _, _, n, _, h1⟩ := (show ObjOk X.prog X.w H s.heap a (.frz ob (.lst xs)) from I.hok a _ ea)
    exact PySem.W.kia_one PySem.W.kitx_list I.kIn ⟨_, h1, rfl⟩ e (fun z => nomatch z) h
  | @tup a xs ea =>
    cases (show u = Value.ref a from rx)
    obtain ⟨_, _, _, p⟩ := (show ObjOk X.prog X.w H s.heap a (.tup xs) from I.hok a _ ea)
    obtain ⟨o, h1, h2, _⟩ := p
    exact PySem.W.kia_one PySem.W.kitx_tuple I.kIn ⟨o, h1, h2⟩ e (fun z => nomatch z) h
  | @dK a kvs ea =>
    cases (show u = Value.ref a from rx)
    obtain ⟨_, _, vs, _, p⟩ := (show ObjOk X.prog X.w H s.heap a (.dK kvs) from I.hok a _ ea)
    obtain ⟨o, es, ep, h1, h2, _⟩ := p
    exact PySem.W.kia_one PySem.W.kitx_dict I.kIn ⟨o, h1, h2.1⟩ e (fun z => nomatch z) h
  | @dT a kvs ea =>
    cases (show u = Value.ref a from rx)
    obtain ⟨_, _, xs, _, o, es, ep, h1, h2, _⟩ := (show ObjOk X.prog X.w H s.heap a (.dT kvs) from I.hok a _ ea)
    exact PySem.W.kia_one PySem.W.kitx_dict I.kIn ⟨o, h1, h2.1⟩ e (fun z => nomatch z) h
  | @ins a C dx fs ea cl ha hn htk hm =>
    cases (show u = Value.ref a from rx)
    obtain ⟨mA, O, _⟩ := ins_get I.hok ea
    obtain ⟨od, J, _⟩ := O.look
    exact PySem.W.kia_one (PySem.W.kitx_own (cl.get _) cl.hd ha hn htk hm) I.kIn J e (fun z => nomatch z) h
end
end L2
namespace L2
open PySem PySem.Spec PyProof.Rows
structure Room (k : Nat) (A : Around) : Prop where
  hd : A.handled = none
  dp : A.depth + 3 * k + 5 < recursionLimit
  un : A.units + 16 * k + 200 < cLine
theorem Room.mono {j k : Nat} {A : Around} (r : Room k A) (h : j ≤ k) : Room j A := ⟨r.hd, by have := r.dp; omega, by have := r.un; omega⟩
theorem Room.deeper {k : Nat} {A : Around} (r : Room (k + 1) A) (env : Env) : Room k (A.deeper env) :=
  ⟨r.hd, by have := r.dp; show A.depth + 1 + 3 * k + 5 < _; omega, by have := r.un; show A.units + 3 + 16 * k + 200 < _; omega⟩
theorem Room.in1 {k : Nat} {A : Around} (r : Room (k + 1) A) : Room k A.in1 :=
  ⟨r.hd, by have := r.dp; show A.depth + 3 * k + 5 < _; omega, by have := r.un; show A.units + 1 + 16 * k + 200 < _; omega⟩
theorem make_depth {A : Around} {C : Addr} {us : List Value} {kw : List (Str × Value)} : (A.under (.builtin "type.__call__" ⟨.ref C :: us, kw⟩)).depth = A.depth + 1 := by
  first | rfl | simp [Around.under, Code.weight, Code.isCreation, Code.isGuard, Code.isCaller, Code.frames, Code.isFrame, guardIds]
theorem make_units {A : Around} {C : Addr} {us : List Value} {kw : List (Str × Value)} : (A.under (.builtin "type.__call__" ⟨.ref C :: us, kw⟩)).units = A.units + 1 := by
  first | rfl | simp [Around.under, Code.cUnits, Code.frames, Code.isFrame]
theorem Room.make {k : Nat} {A : Around} (r : Room (k + 1) A) (C : Addr) (us : List Value) (kw : List (Str × Value)) : Room k (A.under (.builtin "type.__call__" ⟨.ref C :: us, kw⟩)) :=
  ⟨r.hd, by have := r.dp; rw [make_depth]; omega, by have := r.un; rw [make_units]; omega⟩
theorem Room.depth {k : Nat} {A : Around} (r : Room k A) : A.depth < recursionLimit := by have := r.dp; omega
theorem Room.units {k : Nat} {A : Around} (r : Room k A) : A.units + 64 < cLine := by have := r.un; omega
theorem Room.units0 {k : Nat} {A : Around} (r : Room k A) : A.units < cLine := by have := r.un; omega
def tNil : TA := fun _ H Q => Q [] H
def tCons (ta : TE) (tr : TA) : TA := fun σ H Q => ta σ H fun x H1 => tr σ H1 fun xs H2 => Q (x :: xs) H2
section
variable {X : Cx} {e : Expr} {es : List Expr} {te : TE} {t : TA} {pos : Pos}
theorem pa_nil : PA X [] tNil := fun _ _ _ _ H Q I h => Calls.spliced_nil ⟨[], H, I, .nil, h⟩
theorem pa_cons (ha : PE X e te) (hr : PA X es t) (hs : starEach (e :: es) X.env = (false, eval e X.env) :: starEach es X.env := by rfl) : PA X (e :: es) (tCons te t) := by
  intro pos pins s σ H Q I h
  rw [hs]
  show wpAny _ _ (spliced ((false, eval e X.env) :: backTo pos (starEach es X.env))) _ _ s
  refine Calls.spliced_cons (thn (ha pins s σ H _ I h) fun u s1 ⟨x, H1, I1, r1, q1⟩ => ?_)
  exact thn (hr pos pins s1 σ H1 _ I1 q1) fun us s2 ⟨xs, H2, I2, r2, q2⟩ => ⟨x :: xs, H2, I2, .cons r1 r2, q2⟩
def tTup (t : TA) : TE := fun σ H Q => t σ H fun xs H1 => xs.length ≤ sizeLine ∧ ∀ p, H1 p = none → Q (.ref p) (upd H1 p (.tup xs))
def tLst (t : TA) : TE := fun σ H Q => t σ H fun xs H1 => xs.length ≤ sizeLine ∧ ∀ p, H1 p = none → Q (.ref p) (upd H1 p (.lst xs))
theorem pe_tup {x1} (h : PA X es t) : PE X (.Tuple es x1 pos) (tTup t) := by
  intro pins s σ H Q I hq
  refine wpAny_Tuple_spliced (thn (h pos pins s σ H _ I hq) fun us s1 ⟨xs, H1, I1, r, z, q⟩ => ⟨by rw [← r.length]; exact z, ?_⟩)
  have hf : H1 s1.heap.objs.size = none := I1.hok.fresh (Nat.le_refl _)
  refine ⟨.ref s1.heap.objs.size, upd H1 s1.heap.objs.size (.tup xs), I1.laid (t' := s1.toks) (fun b u e => Heap.get?_push_of_some _ e) (Nat.le_refl _) ?_, rfl, q _ hf⟩
  exact ⟨z, us, r, ⟨_, Heap.get?_push_size _ rfl, rfl, _, rfl⟩⟩
theorem pe_lst (h : PA X es t) : PE X (.List es pos) (tLst t) := by
  intro pins s σ H Q I hq
  refine wpAny_List_spliced (thn (h pos pins s σ H _ I hq) fun us s1 ⟨xs, H1, I1, r, z, q⟩ => ⟨by rw [← r.length]; exact z, ?_⟩)
  have hf : H1 s1.heap.objs.size = none := I1.hok.fresh (Nat.le_refl _)
  refine ⟨.ref s1.heap.objs.size, upd H1 s1.heap.objs.size (.lst xs), I1.laid (t' := s1.toks) (fun b u e => Heap.get?_push_of_some _ e) (Nat.le_refl _) ?_, rfl, q _ hf⟩
  exact ⟨z, us, 0, r, Heap.get?_push_size _ rfl⟩
end
abbrev Sp := List V → Hp → VK → XK → Prop
abbrev CXT := List Env → Hp → Shared → XK → Value → Shared → Prop
structure Env0 (P : Program) (w : World) (K : PySem.W.Frag) (mg : Str → Option Value) (base : Heap) (A : Around) (outer : List Env) (s : Shared) (H : Hp) : Prop where
  frames : A.frames = some outer
  mod : Mod K mg base
  bs : ∀ b o, base.get? b = some o → s.heap.get? b = some o ∧ H b = none
  bsz : base.objs.size ≤ s.heap.objs.size
  funs : s.heap.FunFrames base outer
  frf : ∀ b ∈ frs outer, H b = none
  hok : HOk P w H s.heap
  bare : AllBare s.gens
def CE (outer : List Env) (P : Program) (w : World) (H : Hp) (s : Shared) (Q : VK) (u : Value) (s' : Shared) : Prop :=
  ∃ v H', s'.os = s.os ∧ AllBare s'.gens ∧ Un (frs outer) [] H H' s.heap s'.heap ∧ HOk P w H' s'.heap ∧ RelV v u ∧ Q v H'
def CR (CX : CXT) (outer : List Env) (P : Program) (w : World) (H : Hp) (s : Shared) (Q : VK) (E : XK) (r : Result) (s' : Shared) : Prop :=
  match r with
  | .ok (.ret u) => CE outer P w H s Q u s'
  | .ok _ => False
  | .error e => CX outer H s E e s'
structure FnOk (P : Program) (w : World) (K : PySem.W.Frag) (mg : Str → Option Value) (base : Heap) (CX : CXT) (k : Nat) (f : Addr) (fd : FuncData) (ps : List Str) (sp : Sp) : Prop where
  len : ∀ vs H Q E, sp vs H Q E → vs.length = ps.length
  run : ∀ (A : Around) (outer : List Env) (s : Shared) (H : Hp) (args : Args) (us : List Value) (vs : List V) (Q : VK) (E : XK), Room k A → Env0 P w K mg base A outer s H → BindsTo s fd args (ps.zip us) → Vals vs us → sp vs H Q E →
    codeAny (model P w) A (.call (.ref f) args) (CR CX outer P w H s Q E) s
theorem FnOk.mono {P : Program} {w : World} {K : PySem.W.Frag} {mg : Str → Option Value} {base : Heap} {CX : CXT} {j k : Nat} {f : Addr} {fd : FuncData} {ps : List Str} {sp : Sp} (F : FnOk P w K mg base CX j f fd ps sp) (h : j ≤ k) :
    FnOk P w K mg base CX k f fd ps sp := ⟨F.len, fun A outer s H args us vs Q E hr => F.run A outer s H args us vs Q E (hr.mono h)⟩
theorem FnOk.imp {P : Program} {w : World} {K : PySem.W.Frag} {mg : Str → Option Value} {base : Heap} {CX : CXT} {k : Nat} {f : Addr} {fd : FuncData} {ps : List Str} {sp sp' : Sp} (F : FnOk P w K mg base CX k f fd ps sp)
    (h : ∀ vs H Q E, sp' vs H Q E → sp vs H Q E) : FnOk P w K mg base CX k f fd ps sp' :=
  ⟨fun vs H Q E q => F.len vs H Q E (h _ _ _ _ q), fun A outer s H args us vs Q E hr he hb hv hs => F.run A outer s H args us vs Q E hr he hb hv (h _ _ _ _ hs)⟩
theorem Env0.make {P : Program} {w : World} {K : PySem.W.Frag} {mg : Str → Option Value} {base : Heap} {A : Around} {outer : List Env} {s : Shared} {H : Hp} (e : Env0 P w K mg base A outer s H) (C : Addr) (us : List Value) (kw : List (Str × Value)) :
    Env0 P w K mg base (A.under (.builtin "type.__call__" ⟨.ref C :: us, kw⟩)) outer s H := ⟨by first | exact e.frames | (simpa [Around.under, Code.envs, Code.isFrame, pushEnvs] using e.frames), e.mod, e.bs, e.bsz, e.funs, e.frf, e.hok, e.bare⟩
theorem Env0.in1 {P : Program} {w : World} {K : PySem.W.Frag} {mg : Str → Option Value} {base : Heap} {A : Around} {outer : List Env} {s : Shared} {H : Hp} (e : Env0 P w K mg base A outer s H) :
    Env0 P w K mg base A.in1 outer s H := ⟨e.frames, e.mod, e.bs, e.bsz, e.funs, e.frf, e.hok, e.bare⟩
section
variable {X : Cx} {pins : List (Addr × Obj)} {σ : St} {H : Hp} {s s' : Shared}
theorem Inv.env0 (I : Inv X pins σ H s) : Env0 X.prog X.w X.K X.mg X.base X.A X.stack s H :=
  ⟨I.ok.frames, I.ok.mod, I.bs, Nat.le_trans I.ok.bsz I.sz, I.stack, I.stkFree, I.hok, I.bare⟩
theorem Inv.after {Q : VK} {u : Value} (I : Inv X pins σ H s) (h : CE X.stack X.prog X.w H s Q u s') : EP X pins σ Q u s' := by
  obtain ⟨v, H', os, bare, un, hok, r, q⟩ := h
  obtain ⟨hh, g, d, t, os'⟩ := s'
  obtain rfl : os' = s.os := os
  exact ⟨v, H', I.call (h' := hh) (g' := g) (d' := d) (t' := t) (ch := []) un hok bare (fun b z => absurd z (by simp)), r, q⟩
end
def tCall (sp : Sp) (dvs : List V) (E : XK) (t : TA) : TE := fun σ H Q => t σ H fun vs H1 => sp (vs ++ dvs) H1 Q E
def tMake (C : Addr) (sp : Sp) (dvs : List V) (E : XK) (t : TA) : TE := fun σ H Q => t σ H fun vs H1 => ∀ x dx, H1 x = none → H1 dx = none → dx ≠ x →
  sp (.ref x :: (vs ++ dvs)) (upd (upd H1 dx (.own x)) x (.ins C dx [])) (fun v H2 => v = .non ∧ Q (.ref x) H2) E
def Binds (K : PySem.W.Frag) (fd : FuncData) (ps : List Str) (ds : List Value) : Prop :=
  ∀ (s : Shared) (us : List Value), K.In s.heap → (us ++ ds).length = ps.length → BindsTo s fd ⟨us, []⟩ (ps.zip (us ++ ds))
theorem Binds.all {K : PySem.W.Frag} {fd : FuncData} {ps : List Str} (h : ∀ us : List Value, us.length = ps.length → bindArgs fd ⟨us, []⟩ = pure (ps.zip us)) : Binds K fd ps [] := fun s us _ hl => by
  rw [List.append_nil] at hl ⊢
  exact .of_eq (h us hl)
def Passes (CX : CXT) (X : Cx) (E : XK) : Prop := ∀ (pins : List (Addr × Obj)) (σ : St) (H : Hp) (s : Shared) (e : Value) (s' : Shared), Inv X pins σ H s → CX X.stack H s E e s' → X.xe e s'
section
variable {X : Cx} {CX : CXT} {k : Nat} {f C : Addr} {fd : FuncData} {ps : List Str} {sp : Sp} {dvs : List V} {ds : List Value} {E : XK} {x m : Str} {p pos apos : Pos} {e o : Expr} {es : List Expr} {ta : TE} {t : TA}
theorem run_fn {pins : List (Addr × Obj)} {σ : St} {H : Hp} {s : Shared} {Q : VK} {us : List Value} {vs : List V} (F : FnOk X.prog X.w X.K X.mg X.base CX k f fd ps sp) (hr : Room k X.A) (hb : Binds X.K fd ps ds) (hd : Vals dvs ds) (hx : Passes CX X E)
    (I : Inv X pins σ H s) (r : Vals vs us) (h : sp (vs ++ dvs) H Q E) : wpAny (model X.prog X.w) X.A (call (.ref f) us) (EP X pins σ Q) X.xe s := by
  have r2 : Vals (vs ++ dvs) (us ++ ds) := r.append hd
  have hl : (us ++ ds).length = ps.length := by rw [← r2.length]; exact F.len _ _ _ _ h
  refine wpAny_call (codeAny_mono (F.run X.A X.stack s H ⟨us, []⟩ (us ++ ds) (vs ++ dvs) Q E hr I.env0 (hb s us I.kIn hl) r2 h) fun r s' hq => ?_)
  cases r with
  | error e => exact hx pins σ H s e s' I hq
  | ok fl =>
    cases fl with
    | ret u => exact I.after hq
    | next => exact False.elim hq
    | brk => exact False.elim hq
    | cont => exact False.elim hq
theorem pe_call (F : FnOk X.prog X.w X.K X.mg X.base CX k f fd ps sp) (hr : Room k X.A) (hg : Gl X x) (hm : X.mg x = some (.ref f)) (hk : PySem.W.keepIn X.K (.ref f) = true) (hb : Binds X.K fd ps ds) (hd : Vals dvs ds) (hx : Passes CX X E)
    (ha : PA X (e :: es) t) (hdb : (x == ("__debug__" : Str)) = false := by decide) (he : starEach (e :: es) X.env = (false, eval e X.env) :: starEach es X.env := by rfl) (hpl : (backTo pos (starEach es X.env)).any (·.1) = false := by rfl) :
    PE X (.Call (.Name x p) (e :: es) [] pos) (tCall sp dvs E t) := by
  intro pins s σ H Q I h
  refine wpAny_Call_Name_kw (ld_glob I hg hm ?_ hdb)
  refine PySem.W.callWith_K (h₀ := X.base) I.ok.mod.kin hk (thn (ha pos pins s σ H _ I h) fun us s1 ⟨vs, H1, I1, r, q⟩ => ⟨I1.kIn, ?_⟩) he hpl
  exact run_fn F hr hb hd hx I1 r q
structure Mk (K : PySem.W.Frag) (C f : Addr) : Prop where
  makes : PySem.W.makesIn K C = true
  init : PySem.W.findIn K (.ref C) "__init__" = some (some (.ref f))
  fn : PySem.W.isFn K (.ref f) = true
  kp : PySem.W.keepIn K (.ref C) = true
theorem run_make {pins : List (Addr × Obj)} {σ : St} {H : Hp} {s : Shared} {Q : VK} {us : List Value} {vs : List V} (M : Mk X.K C f) (F : FnOk X.prog X.w X.K X.mg X.base CX k f fd ps sp) (hr : Room (k + 1) X.A) (hb : Binds X.K fd ps ds) (hd : Vals dvs ds)
    (hx : Passes CX X E) (I : Inv X pins σ H s) (r : Vals vs us)
    (h : ∀ x dx, H x = none → H dx = none → dx ≠ x → sp (.ref x :: (vs ++ dvs)) (upd (upd H dx (.own x)) x (.ins C dx [])) (fun v H2 => v = .non ∧ Q (.ref x) H2) E) :
    wpAny (model X.prog X.w) X.A (call (.ref C) us) (EP X pins σ Q) X.xe s := by
  have hq := h (s.heap.objs.size + 1) s.heap.objs.size (I.hok.fresh (Nat.le_succ _)) (I.hok.fresh (Nat.le_refl _)) (Nat.ne_of_lt (Nat.lt_succ_self _))
  have I2 := Inv.made (C := C) I
  have r2 : Vals (V.ref (s.heap.objs.size + 1) :: (vs ++ dvs)) (Value.ref (s.heap.objs.size + 1) :: (us ++ ds)) := .cons rfl (r.append hd)
  have hl : (Value.ref (s.heap.objs.size + 1) :: us ++ ds).length = ps.length := by
    have e := r2.length
    rw [F.len _ _ _ _ hq] at e
    exact e.symm
  refine wpAny_call (make_map (f := f) I.kIn M.makes M.init (beq_iff_eq.mp M.fn) (codeAny_mono (F.run _ X.stack _ _ ⟨Value.ref (s.heap.objs.size + 1) :: us, []⟩ (Value.ref (s.heap.objs.size + 1) :: (us ++ ds)) _ _ E (hr.make C us [])
    (I2.env0.make C us []) (hb _ (Value.ref (s.heap.objs.size + 1) :: us) I2.kIn hl) r2 hq) fun r s' hq' => ?_))
  cases r with
  | error e => exact hx pins σ _ _ e s' I2 hq'
  | ok fl =>
    cases fl with
    | ret u =>
      obtain ⟨v, H', I3, rv, ev, q3⟩ := I2.after hq'
      subst ev
      exact ⟨rv, ⟨V.ref (s.heap.objs.size + 1), H', I3, rfl, q3⟩⟩
    | next => exact False.elim hq'
    | brk => exact False.elim hq'
    | cont => exact False.elim hq'
theorem pe_make (M : Mk X.K C f) (F : FnOk X.prog X.w X.K X.mg X.base CX k f fd ps sp) (hr : Room (k + 1) X.A) (hg : Gl X x) (hm : X.mg x = some (.ref C)) (hb : Binds X.K fd ps ds) (hd : Vals dvs ds) (hx : Passes CX X E)
    (ha : PA X (e :: es) t) (hdb : (x == ("__debug__" : Str)) = false := by decide) (he : starEach (e :: es) X.env = (false, eval e X.env) :: starEach es X.env := by rfl) (hpl : (backTo pos (starEach es X.env)).any (·.1) = false := by rfl) :
    PE X (.Call (.Name x p) (e :: es) [] pos) (tMake C sp dvs E t) := by
  intro pins s σ H Q I h
  refine wpAny_Call_Name_kw (ld_glob I hg hm ?_ hdb)
  refine PySem.W.callWith_K (h₀ := X.base) I.ok.mod.kin M.kp (thn (ha pos pins s σ H _ I h) fun us s1 ⟨vs, H1, I1, r, q⟩ => ⟨I1.kIn, ?_⟩) he hpl
  exact run_make M F hr hb hd hx I1 r q
end
def PK (X : Cx) (kws : List Keyword) (t : TA) : Prop :=
  ∀ (pos : Pos) (pins : List (Addr × Obj)) (s : Shared) (σ : St) (H : Hp) (Q : List V → Hp → Prop), Inv X pins σ H s → t σ H Q → wpAny (model X.prog X.w) X.A (evalAll ((backToKw pos (keywordEach kws X.env)).map (·.2))) (AP X pins σ Q) X.xe s
section
variable {X : Cx} {CX : CXT} {k : Nat} {f C : Addr} {fd : FuncData} {ps ks : List Str} {sp : Sp} {E : XK} {x m : Str} {p pos apos kpos : Pos} {e o : Expr} {es : List Expr} {kws : List Keyword} {te ta : TE} {t tk : TA} {nm : Option Str}
theorem pk_nil : PK X [] tNil := fun _ _ _ _ H Q I h => wpAny_evalAll_nil ⟨[], H, I, .nil, h⟩
theorem pk_cons (ha : PE X e te) (hr : PK X kws t) : PK X (⟨nm, e, kpos⟩ :: kws) (tCons te t) := by
  intro pos pins s σ H Q I h
  show wpAny _ _ (evalAll ((do let v ← eval e X.env; standAt pos; pure v) :: (backToKw pos (keywordEach kws X.env)).map (·.2))) _ _ s
  refine wpAny_evalAll_cons (wpAny_bind (thn (ha pins s σ H _ I h) fun u s1 ⟨x, H1, I1, r1, q1⟩ => wpAny_bind (wpAny_standAt (wpAny_pure ?_))))
  exact thn (hr pos pins s1 σ H1 _ I1 q1) fun us s2 ⟨xs, H2, I2, r2, q2⟩ => ⟨x :: xs, H2, I2, .cons r1 r2, q2⟩
structure KBinds (K : PySem.W.Frag) (fd : FuncData) (ps ks : List Str) (g : List Value → List Value → List Value) (gV : List V → List V → List V) : Prop where
  to : ∀ (s : Shared) (us ws : List Value), K.In s.heap → (g us ws).length = ps.length → BindsTo s fd ⟨us, ks.zip ws⟩ (ps.zip (g us ws))
  rel : ∀ {vs : List V} {us : List Value} {zs : List V} {ws : List Value}, Vals vs us → Vals zs ws → Vals (gV vs zs) (g us ws)
variable {g : List Value → List Value → List Value} {gV : List V → List V → List V}
end
structure FnScope (N P : List Str) (sc : Scope) : Prop where
  kind : sc.kind = .function
  co : sc.isCoroutine = false
  gen : sc.isGenerator = false
  nd : N.Nodup
  pre : N.take P.length = P
  par : ∀ x ∈ P, sc.names.lookup x = some .local ∨ sc.names.lookup x = some .cell
  nofree : ∀ y ∈ sc.names, y.2 ≠ .free
theorem bindL_out {kindOf : Str → Option NameKind} {x : Str} : ∀ {binds : List (Str × Value)} {m : Str → Option Value}, (∀ v, (x, v) ∉ binds) → bindL kindOf binds m x = m x
  | [], _, _ => rfl
  | (n, v) :: r, m, h => by
    unfold bindL
    rw [bindL_out fun w hw => h w (List.mem_cons_of_mem _ hw)]
    split
    · have : x ≠ n := by rintro rfl; exact h v List.mem_cons_self
      simp [this]
    · rfl
theorem bindC_out {kindOf : Str → Option NameKind} {x : Str} : ∀ {binds : List (Str × Value)} {m : Str → Option Value}, (∀ v, (x, v) ∉ binds) → bindC kindOf binds m x = m x
  | [], _, _ => rfl
  | (n, v) :: r, m, h => by
    unfold bindC
    rw [bindC_out fun w hw => h w (List.mem_cons_of_mem _ hw)]
    split
    · rfl
    · have : x ≠ n := by rintro rfl; exact h v List.mem_cons_self
      simp [this]
theorem bindL_get {kindOf : Str → Option NameKind} {x : Str} {v : Value} : ∀ {P : List Str} {vs : List Value} {i : Nat} {m : Str → Option Value}, P.Nodup → P[i]? = some x → vs[i]? = some v → kindOf x = some .local →
    bindL kindOf (P.zip vs) m x = some v
  | [], _, _, _, _, h, _, _ => by simp at h
  | _ :: _, [], _, _, _, _, h, _ => by simp at h
  | p :: P, w :: vs, 0, m, nd, h1, h2, hk => by
    simp at h1 h2; subst h1; subst h2
    show bindL kindOf ((p, w) :: P.zip vs) m p = _
    unfold bindL
    rw [bindL_out fun v hv => (List.nodup_cons.mp nd).1 (List.of_mem_zip hv).1, if_pos hk]
    simp
  | p :: P, w :: vs, i + 1, m, nd, h1, h2, hk => by
    show bindL kindOf ((p, w) :: P.zip vs) m x = _
    unfold bindL
    exact bindL_get (i := i) (List.nodup_cons.mp nd).2 (by simpa using h1) (by simpa using h2) hk
theorem bindC_get {kindOf : Str → Option NameKind} {x : Str} {v : Value} : ∀ {P : List Str} {vs : List Value} {i : Nat} {m : Str → Option Value}, P.Nodup → P[i]? = some x → vs[i]? = some v → kindOf x ≠ some .local →
    bindC kindOf (P.zip vs) m x = some v
  | [], _, _, _, _, h, _, _ => by simp at h
  | _ :: _, [], _, _, _, _, h, _ => by simp at h
  | p :: P, w :: vs, 0, m, nd, h1, h2, hk => by
    simp at h1 h2; subst h1; subst h2
    show bindC kindOf ((p, w) :: P.zip vs) m p = _
    unfold bindC
    rw [bindC_out fun v hv => (List.nodup_cons.mp nd).1 (List.of_mem_zip hv).1, if_neg hk]
    simp
  | p :: P, w :: vs, i + 1, m, nd, h1, h2, hk => by
    show bindC kindOf ((p, w) :: P.zip vs) m x = _
    unfold bindC
    exact bindC_get (i := i) (List.nodup_cons.mp nd).2 (by simpa using h1) (by simpa using h2) hk
def start (N : List Str) (vs : List V) : St := vs.map some ++ List.replicate (N.length - vs.length) none
def cxOf (CX : CXT) (P : Program) (w : World) (K : PySem.W.Frag) (mg : Str → Option Value) (base : Heap) (N : List Str) (qual : Str) (scope : Scope) (f : Addr) (cd : Value) (A : Around) (outer : List Env) (s : Shared) (H : Hp) (E : XK) : Cx where
  prog := P
  w := w
  K := K
  mg := mg
  base := base
  A := A.deeper (envOfC qual scope s.heap.objs.size f cd)
  N := N
  s₀ := s
  H₀ := H
  env := envOfC qual scope s.heap.objs.size f cd
  outer := outer
  stack := envOfC qual scope s.heap.objs.size f cd :: outer
  ex := []
  calm := true
  fn := fun _ => true
  pn := []
  xe := fun e s' => wpAny (model P w) (A.deeper (envOfC qual scope s.heap.objs.size f cd)) (leaving (envOfC qual scope s.heap.objs.size f cd) e) (fun _ s'' => CX outer H s E e s'') (fun e' s'' => CX outer H s E e' s'') s'
theorem cell_has {sc : Scope} {n : Nat} {x : Str} (h : sc.names.lookup x = some .cell) : ∃ c, (cellsFrom n sc.names []).lookup x = some c := by
  have q := PySem.W.cellsFrom_some sc.names n [] (.inl h)
  exact Option.isSome_iff_exists.mp q
theorem inv_start {CX : CXT} {P : Program} {w : World} {K : PySem.W.Frag} {mg : Str → Option Value} {base : Heap} {N ps : List Str} {qual : Str} {scope : Scope} {f : Addr} {cd : Value} {A : Around} {outer : List Env} {s s1 : Shared} {H : Hp} {E : XK} {us : List Value} {vs : List V}
    (S : FnScope N ps scope) (hd : A.handled = none) (e0 : Env0 P w K mg base A outer s H) (hl : vs.length = ps.length) (r : Vals vs us)
    (x : InCallC s s.heap.objs.size (bindL (envOfC qual scope s.heap.objs.size f cd).kindOf (ps.zip us) fun _ => none) (cellsFrom (s.heap.objs.size + 1) scope.names []) (bindC (envOfC qual scope s.heap.objs.size f cd).kindOf (ps.zip us) fun _ => none) s1) :
    Inv (cxOf CX P w K mg base N qual scope f cd A outer s H E) [] (start N vs) H s1 := by
  have hpl : ps.length ≤ N.length := by have := congrArg List.length S.pre; rw [List.length_take] at this; omega
  obtain ⟨h1, tk, rfl, hk⟩ := x.done
  have noA : ∀ b : Addr, b ∉ (cxOf CX P w K mg base N qual scope f cd A outer s H E).ex := fun b z => absurd (show b ∈ ([] : List Addr) from z) (by simp)
  refine ⟨⟨e0.mod, S.kind, rfl, rfl, Nat.le_refl _, fun y z c h1 h2 => ?_, fun y hy => ?_, fun y c _ h => ?_, fun _ => hd, Around.frames_deeper e0.frames, .inr ⟨rfl, rfl⟩, fun b z => absurd z (noA b), e0.bs, e0.bsz, fun b _ _ => noA b, fun b z => absurd z (noA b), e0.funs, e0.frf⟩,
    rfl, e0.bare, Un.kept hk, ⟨_, x.toInCall.ns, fun i y v h1 h2 h3 => ?_⟩, fun y c h => ⟨_, x.cell y c h⟩, e0.hok.fresh (Nat.le_refl _), fun y c h => ?_, fun p hp => absurd (show p ∈ ([] : List (Addr × Obj)) from hp) (by simp), e0.hok.kept hk, ?_⟩
  · exact name_of_addr x.apart (PySem.mem_of_lookup h1) (PySem.mem_of_lookup h2)
  · have hy : scope.names.lookup y = some .cell ∨ scope.names.lookup y = some .free := hy
    rcases hy with hy | hy
    · exact cell_has hy
    · exact absurd rfl (S.nofree _ (PySem.mem_of_lookup hy))
  · exact Nat.le_of_lt (x.above y c (PySem.mem_of_lookup h))
  · have hi : i < vs.length := by
      unfold start at h2
      by_cases hi : i < vs.length
      · exact hi
      · rw [List.getElem?_append_right (by simpa using hi)] at h2
        rw [List.getElem?_replicate] at h2
        split at h2 <;> cases h2
    have ha : vs[i]? = some v := by
      unfold start at h2
      rw [List.getElem?_append_left (by simpa using hi), List.getElem?_map] at h2
      cases e : vs[i]? with
      | none => rw [e] at h2; cases h2
      | some a => rw [e] at h2; cases h2; rfl
    obtain ⟨u, hu, rv⟩ := r.get ha
    have hp : ps[i]? = some y := by
      rw [← S.pre, List.getElem?_take_of_lt (by omega)]; exact h1
    have ndP : ps.Nodup := by rw [← S.pre]; exact S.nd.sublist (List.take_sublist _ _)
    refine ⟨u, rv, ?_⟩
    rcases S.par y (List.mem_of_getElem? hp) with k | k
    · exact .inl ⟨k, bindL_get ndP hp hu k⟩
    · obtain ⟨c, e⟩ := cell_has (n := s.heap.objs.size + 1) k
      refine .inr ⟨.inl k, c, e, ?_⟩
      have q := x.cell y c e
      rw [bindC_get ndP hp hu (by show scope.names.lookup y ≠ _; rw [k]; decide)] at q
      exact q
  · exact e0.hok.fresh (Nat.le_of_lt (x.above y c (PySem.mem_of_lookup h)))
  · unfold start
    show _ = N.length
    rw [List.length_append, List.length_map, List.length_replicate]
    omega
theorem fn_of {CX : CXT} {P : Program} {w : World} {K : PySem.W.Frag} {mg : Str → Option Value} {base : Heap} {k : Nat} {f : Addr} {name qual : Str} {params : Arguments} {body : List Stmt} {scope : Scope} {dV kV doc pm cdv ct oc : Value} {an od : Option Addr}
    {osl : Array (Option Value)} {N ps : List Str} {sp : Sp} (lk : K.lookup f = some ⟨oc, od, .func (PySem.W.fnOf name qual params body scope dV kV doc pm an cdv ct), osl⟩) (hcd : PySem.W.codeIn K cdv qual = true) (S : FnScope N ps scope)
    (len : ∀ vs H Q E, sp vs H Q E → vs.length = ps.length)
    (hbody : ∀ (A : Around) (outer : List Env) (s : Shared) (H : Hp) (vs : List V) (Q : VK) (E : XK), Room k (A.deeper (envOfC qual scope s.heap.objs.size f cdv)) → sp vs H Q E →
      ∃ t, PSs (cxOf CX P w K mg base N qual scope f cdv A outer s H E) body t ∧ t { nx := fun _ H' => Q .non H', rt := Q } (start N vs) H) :
    FnOk P w K mg base CX (k + 1) f (PySem.W.fnOf name qual params body scope dV kV doc pm an cdv ct) ps sp := by
  refine ⟨len, fun A outer s H args us vs Q E hr e0 hb r hsp => ?_⟩
  have hl := len _ _ _ _ hsp
  have KX : K.In s.heap := e0.mod.kin.keeps fun b o e => (e0.bs b o e).1
  have lim : s.heap.NoLimit := e0.mod.nolimit.keeps fun b o e => (e0.bs b o e).1
  have hkind : ∀ y ∈ ps.zip us, scope.names.lookup y.1 = some .local ∨ (scope.names.lookup y.1 = some .cell ∧ ((cellsFrom (s.heap.objs.size + 1) scope.names []).lookup y.1).isSome = true) := fun ⟨n, v⟩ hy => by
    rcases S.par n (List.of_mem_zip hy).1 with q | q
    · exact .inl q
    · exact .inr ⟨q, PySem.W.cellsFrom_some _ _ _ (.inl q)⟩
  refine codeAny_call_function hr.depth (KX _ _ lk) rfl S.co S.gen rfl (PySem.W.codeRec_of KX hcd) (hb _ _ _ _ ?_)
  refine wpAny_newFunctionEnv_cells S.kind hkind fun env he s1 x => ?_
  subst he
  refine ⟨lim.keeps x.toInCall.keep, codeAny_func ?_⟩
  obtain ⟨t, ht, hq⟩ := hbody A outer s H vs Q E (hr.deeper _) hsp
  have I : Inv (cxOf CX P w K mg base N qual scope f cdv A outer s H E) [] (start N vs) H s1 := inv_start S hr.hd e0 hl r x
  refine wpAny_mono (ht [] s1 (start N vs) H _ I hq) (fun fl s' hs => ?_) fun e s' hs => hs
  have fin : ∀ {σ' : St} {H' : Hp} {v : V} {u : Value}, Inv (cxOf CX P w K mg base N qual scope f cdv A outer s H E) [] σ' H' s' → RelV v u → Q v H' → CE outer P w H s Q u s' :=
    fun {σ' H' v u} J rv q => ⟨v, H', J.os, J.bare, J.base, J.hok, rv, q⟩
  cases fl with
  | ret u =>
    obtain ⟨v, σ', H', J, rv, q⟩ := hs
    exact fin J rv q
  | next =>
    obtain ⟨σ', H', J, q⟩ := hs
    exact fin (v := V.non) (u := Value.none) J rfl q
  | brk =>
    obtain ⟨_, _, _, q⟩ := hs
    exact False.elim q
  | cont =>
    obtain ⟨_, _, _, q⟩ := hs
    exact False.elim q
end L2
namespace L2
open PySem PySem.Spec PyProof.Rows
section
variable {X : Cx} {x : Str} {p pos : Pos} {e : Expr} {es : List Expr} {t : TA} {id T : String} {r : List V → Hp → VK → Prop}
def tCB (r : List V → Hp → VK → Prop) (t : TA) : TE := fun σ H Q => t σ H fun vs H1 => r vs H1 Q
theorem pe_callB (hc : CallR X (.builtin id) r) (hg : Gl X x) (hm : X.mg x = none) (hv : bootBuiltins x = some (.builtin id)) (ha : PA X (e :: es) t) (hn : x ≠ "__name__" := by decide) (hdb : (x == ("__debug__" : Str)) = false := by decide)
    (he : starEach (e :: es) X.env = (false, eval e X.env) :: starEach es X.env := by rfl) (hpl : (backTo pos (starEach es X.env)).any (·.1) = false := by rfl) : PE X (.Call (.Name x p) (e :: es) [] pos) (tCB r t) := by
  intro pins s σ H Q I h
  refine wpAny_Call_Name_kw (ld_blt I hg hm hv ?_ hn hdb)
  exact PyProof.Rows.callWith_builtin1 (thn (ha pos pins s σ H _ I h) fun us s1 ⟨vs, H1, I1, r1, q1⟩ => hc pins s1 σ H1 vs us Q I1 r1 q1) he hpl
theorem pe_callTy (hc : CallR X (.type T) r) (hg : Gl X x) (hm : X.mg x = none) (hv : bootBuiltins x = some (.type T)) (ha : PA X (e :: es) t) (hn : x ≠ "__name__" := by decide) (hdb : (x == ("__debug__" : Str)) = false := by decide)
    (he : starEach (e :: es) X.env = (false, eval e X.env) :: starEach es X.env := by rfl) (hpl : (backTo pos (starEach es X.env)).any (·.1) = false := by rfl) : PE X (.Call (.Name x p) (e :: es) [] pos) (tCB r t) := by
  intro pins s σ H Q I h
  refine wpAny_Call_Name_kw (ld_blt I hg hm hv ?_ hn hdb)
  exact PyProof.Rows.callWith_type1 (thn (ha pos pins s σ H _ I h) fun us s1 ⟨vs, H1, I1, r1, q1⟩ => hc pins s1 σ H1 vs us Q I1 r1 q1) he hpl
end
end L2
namespace L2
open PySem PySem.Spec PyProof.Rows
section
variable {κ : Type} [DecidableEq κ]
def valV (kvs : List (κ × V)) (k : κ) : Option V := (kvs.find? fun kv => decide (kv.1 = k)).map (·.2)
def putK (kvs : List (κ × V)) (k : κ) (v : V) : List (κ × V) :=
  if (kvs.any fun kv => decide (kv.1 = k)) = true then kvs.map (fun kv => if kv.1 = k then (kv.1, v) else kv) else kvs ++ [(k, v)]
def dropK (kvs : List (κ × V)) (k : κ) : List (κ × V) := kvs.filter fun kv => decide (kv.1 ≠ k)
theorem valV_nil {k : κ} : valV ([] : List (κ × V)) k = none := rfl
theorem valV_pos {p : κ × V} {r : List (κ × V)} {k : κ} (e : p.1 = k) : valV (p :: r) k = some p.2 := by simp [valV, List.find?_cons, e]
theorem valV_neg {p : κ × V} {r : List (κ × V)} {k : κ} (e : ¬ p.1 = k) : valV (p :: r) k = valV r k := by simp [valV, List.find?_cons, e]
theorem valV_any (k : κ) : ∀ kvs : List (κ × V), (kvs.any fun kv => decide (kv.1 = k)) = (valV kvs k).isSome
  | [] => rfl
  | p :: r => by
    rw [List.any_cons]
    by_cases e : p.1 = k
    · simp only [valV_pos e, decide_eq_true e, Bool.true_or, Option.isSome_some]
    · rw [valV_neg e, decide_eq_false e, Bool.false_or]; exact valV_any k r
theorem valV_map (k j : κ) (y : V) : ∀ kvs : List (κ × V), valV (kvs.map fun kv => if kv.1 = k then (kv.1, y) else kv) j = (valV kvs j).map fun x => if j = k then y else x
  | [] => rfl
  | p :: r => by
    have ih := valV_map k j y r
    rw [List.map_cons]
    by_cases h : p.1 = k
    · rw [if_pos h]
      by_cases e : p.1 = j
      · rw [valV_pos (p := (p.1, y)) e, valV_pos e, Option.map_some, if_pos (e.symm.trans h)]
      · rw [valV_neg (p := (p.1, y)) e, valV_neg e, ih]
    · rw [if_neg h]
      by_cases e : p.1 = j
      · rw [valV_pos (p := p) e, valV_pos e, Option.map_some, if_neg (fun z => h (e.trans z))]
      · rw [valV_neg (p := p) e, valV_neg e, ih]
theorem valV_snoc (k j : κ) (y : V) : ∀ kvs : List (κ × V), valV kvs k = none → valV (kvs ++ [(k, y)]) j = if j = k then some y else valV kvs j
  | [], _ => by
    by_cases e : k = j
    · rw [if_pos e.symm]; exact valV_pos (p := (k, y)) e
    · rw [if_neg (fun z => e z.symm)]; exact valV_neg (p := (k, y)) e
  | p :: r, hn => by
    rw [List.cons_append]
    have hk : ¬ p.1 = k := fun z => by rw [valV_pos z] at hn; cases hn
    rw [valV_neg hk] at hn
    have ih := valV_snoc k j y r hn
    by_cases e : p.1 = j
    · rw [valV_pos e, valV_pos e, if_neg (fun z => hk (e.trans z))]
    · rw [valV_neg e, valV_neg e, ih]
theorem valV_put (kvs : List (κ × V)) (k j : κ) (y : V) : valV (putK kvs k y) j = if j = k then some y else valV kvs j := by
  unfold putK
  by_cases a : (kvs.any fun kv => decide (kv.1 = k)) = true
  · rw [if_pos a, valV_map]
    rw [valV_any] at a
    by_cases e : j = k
    · obtain ⟨x, hx⟩ := Option.isSome_iff_exists.mp a
      rw [if_pos e, e, hx, Option.map_some, if_pos rfl]
    · rw [if_neg e]
      cases valV kvs j with
      | none => rfl
      | some x => rw [Option.map_some, if_neg e]
  · rw [if_neg a]
    refine valV_snoc k j y kvs ?_
    rw [valV_any] at a
    cases q : valV kvs k with
    | none => rfl
    | some x => rw [q] at a; exact (a rfl).elim
theorem length_putK (kvs : List (κ × V)) (k : κ) (v : V) : (putK kvs k v).length ≤ kvs.length + 1 := by
  unfold putK
  split
  · rw [List.length_map]; omega
  · rw [List.length_append, List.length_cons, List.length_nil]; omega
theorem RelO.isSome_eq {o : Option V} {u : Option Value} (r : RelO o u) : o.isSome = u.isSome := by
  cases o with
  | none => cases u with
    | none => rfl
    | some _ => exact (show False from r).elim
  | some _ => cases u with
    | none => exact (show False from r).elim
    | some _ => rfl
theorem RelO.getD {o : Option V} {u : Option Value} {d : V} {d' : Value} (r : RelO o u) (rd : RelV d d') : RelV (o.getD d) (u.getD d') := by
  cases o with
  | none => cases u with
    | none => exact rd
    | some _ => exact (show False from r).elim
  | some _ => cases u with
    | none => exact (show False from r).elim
    | some _ => exact r
theorem KV.val {kvs : List (κ × V)} {vs : List (κ × Value)} (r : KV kvs vs) (k : κ) : RelO (valV kvs k) (valueAt vs k) := by
  unfold KV at r
  induction r with
  | nil => exact True.intro
  | @cons p q ps qs h t ih =>
    obtain ⟨h1, h2⟩ := h
    by_cases e : p.1 = k
    · have e' : q.1 = k := h1.symm.trans e
      have b : valueAt (q :: qs) k = some q.2 := by simp [valueAt, List.find?_cons, e']
      rw [valV_pos e, b]; exact h2
    · have e' : ¬ q.1 = k := fun z => e (h1.trans z)
      have b : valueAt (q :: qs) k = valueAt qs k := by simp [valueAt, List.find?_cons, e']
      rw [valV_neg e, b]; exact ih
theorem KV.any {kvs : List (κ × V)} {vs : List (κ × Value)} (r : KV kvs vs) (k : κ) : (kvs.any fun kv => decide (kv.1 = k)) = vs.any fun kv => decide (kv.1 = k) := by
  unfold KV at r
  induction r with
  | nil => rfl
  | cons h t ih => rw [List.any_cons, List.any_cons, ih, h.1]
theorem KV.repl {kvs : List (κ × V)} {vs : List (κ × Value)} (r : KV kvs vs) (k : κ) {y : V} {u : Value} (ry : RelV y u) :
    KV (kvs.map fun kv => if kv.1 = k then (kv.1, y) else kv) (vs.map fun kv => if kv.1 = k then (kv.1, u) else kv) := by
  unfold KV at r ⊢
  induction r with
  | nil => exact .nil
  | @cons p q ps qs h t ih =>
    rw [List.map_cons, List.map_cons]
    refine .cons ?_ ih
    obtain ⟨h1, h2⟩ := h
    by_cases e : p.1 = k
    · rw [if_pos e, if_pos (h1.symm.trans e)]; exact ⟨h1, ry⟩
    · rw [if_neg e, if_neg (fun z => e (h1.trans z))]; exact ⟨h1, h2⟩
theorem KV.put {kvs : List (κ × V)} {vs : List (κ × Value)} (r : KV kvs vs) (k : κ) {y : V} {u : Value} (ry : RelV y u) : KV (putK kvs k y) (stored vs k u) := by
  unfold putK stored
  rw [r.any k]
  by_cases e : (vs.any fun kv => decide (kv.1 = k)) = true
  · rw [if_pos e, if_pos e]; exact r.repl k ry
  · rw [if_neg e, if_neg e]; exact Paired.snoc r ⟨rfl, ry⟩
theorem KV.drop {kvs : List (κ × V)} {vs : List (κ × Value)} (r : KV kvs vs) (k : κ) : KV (dropK kvs k) (without vs k) := by
  unfold KV at r ⊢
  unfold dropK without
  induction r with
  | nil => exact .nil
  | @cons p q ps qs h t ih =>
    obtain ⟨h1, h2⟩ := h
    rw [List.filter_cons, List.filter_cons]
    by_cases e : p.1 = k
    · have a : ¬ decide (p.1 ≠ k) = true := by simp [e]
      have b : ¬ decide (q.1 ≠ k) = true := by simp [h1.symm.trans e]
      rw [if_neg a, if_neg b]; exact ih
    · have e' : ¬ q.1 = k := fun z => e (h1.trans z)
      have a : decide (p.1 ≠ k) = true := by simp [e]
      have b : decide (q.1 ≠ k) = true := by simp [e']
      rw [if_pos a, if_pos b]; exact .cons ⟨h1, h2⟩ ih
theorem KV.keys {kvs : List (κ × V)} {vs : List (κ × Value)} (r : KV kvs vs) : kvs.map (·.1) = vs.map (·.1) := by
  unfold KV at r
  induction r with
  | nil => rfl
  | cons h t ih => rw [List.map_cons, List.map_cons, ih, h.1]
theorem KV.length {kvs : List (κ × V)} {vs : List (κ × Value)} (r : KV kvs vs) : kvs.length = vs.length := Paired.length r
end
theorem kV_is {P : Program} {w : World} {k : Key} {u : Value} (r : RelV (kV k) u) : (mixKind P w).is k u = true := by
  cases k with
  | inl i => obtain ⟨t, e⟩ := (show ∃ t, u = Value.int i t from r); subst e; exact mixKind_int P w i t
  | inr x => obtain ⟨t, e⟩ := (show ∃ t, u = Value.str x t from r); subst e; exact mixKind_str P w x t
theorem items_are {P : Program} {w : World} : ∀ {ks : List Key} {us : List Value}, Vals (ks.map kV) us → ItemsAre (mixKind P w) ks us
  | [], _, r => by rw [List.map_nil] at r; cases r; exact .nil
  | k :: ks, _, r => by
    rw [List.map_cons] at r
    cases r with
    | cons h t => exact .cons (kV_is h) (items_are t)
abbrev KT (H : Hp) : List (List Key × V) → List (List Key × Addr × Value) → Prop := Paired fun p q => p.1 = q.1 ∧ H q.2.1 = some (.tup (p.1.map kV)) ∧ RelV p.2 q.2.2
theorem KT.val {H : Hp} {kvs : List (List Key × V)} {xs : List (List Key × Addr × Value)} (r : KT H kvs xs) (k : List Key) : RelO (valV kvs k) ((atKey xs k).map (·.2)) := by
  induction r with
  | nil => exact True.intro
  | @cons p q ps qs h t ih =>
    obtain ⟨h1, _, h2⟩ := h
    by_cases e : p.1 = k
    · have e' : q.1 = k := h1.symm.trans e
      have b : atKey (q :: qs) k = some q.2 := by simp [atKey, List.find?_cons, e']
      rw [valV_pos e, b]; exact h2
    · have e' : ¬ q.1 = k := fun z => e (h1.trans z)
      have b : atKey (q :: qs) k = atKey qs k := by simp [atKey, List.find?_cons, e']
      rw [valV_neg e, b]; exact ih
theorem KT.repl {H : Hp} {kvs : List (List Key × V)} {xs : List (List Key × Addr × Value)} (r : KT H kvs xs) (k : List Key) {y : V} {u : Value} (ry : RelV y u) :
    KT H (kvs.map fun kv => if kv.1 = k then (kv.1, y) else kv) (xs.map (putAt k u)) := by
  induction r with
  | nil => exact .nil
  | @cons p q ps qs h t ih =>
    rw [List.map_cons, List.map_cons]
    refine .cons ?_ ih
    obtain ⟨h1, h2, h3⟩ := h
    unfold putAt
    by_cases e : p.1 = k
    · rw [if_pos e, if_pos (h1.symm.trans e)]; exact ⟨h1, h2, ry⟩
    · rw [if_neg e, if_neg (fun z => e (h1.trans z))]; exact ⟨h1, h2, h3⟩
theorem KT.put {H : Hp} {kvs : List (List Key × V)} {xs : List (List Key × Addr × Value)} (r : KT H kvs xs) (k : List Key) {b : Addr} {y : V} {u : Value} (hb : H b = some (.tup (k.map kV))) (ry : RelV y u) :
    KT H (putK kvs k y) (storedH xs k b u) := by
  have e : (kvs.any fun kv => decide (kv.1 = k)) = (atKey xs k).isSome := by
    rw [valV_any, (r.val k).isSome_eq, Option.isSome_map]
  unfold putK storedH
  rw [e]
  by_cases q : (atKey xs k).isSome = true
  · rw [if_pos q, if_pos q]; exact r.repl k ry
  · rw [if_neg q, if_neg q]; exact Paired.snoc r ⟨rfl, hb, ry⟩
theorem KT.keeps {H H' : Hp} {kvs : List (List Key × V)} {xs : List (List Key × Addr × Value)} (r : KT H kvs xs) (ht : ∀ b ys, H b = some (.tup ys) → H' b = some (.tup ys)) : KT H' kvs xs :=
  Paired.mapP r fun _ _ z => ⟨z.1, ht _ _ z.2.1, z.2.2⟩
section
variable {P : Program} {w : World} {H : Hp} {h : Heap} {a : Addr}
theorem rd_of {u : HO} (ok : HOk P w H h) (e : Rd H a u) : ObjOk P w H h a u := e.ok ok
theorem dk_rd {kvs : List (Key × V)} (ok : HOk P w H h) (e : Rd H a (.dK kvs)) : kvs.length ≤ sizeLine ∧ (a == sysModules) = false ∧ ∃ vs, KV kvs vs ∧ h.DictOf (mixKind P w) a vs :=
  show ObjOk P w H h a (.dK kvs) from rd_of ok e
theorem dk_of {kvs : List (Key × V)} (ok : HOk P w H h) (e : H a = some (.dK kvs)) : kvs.length ≤ sizeLine ∧ (a == sysModules) = false ∧ ∃ vs, KV kvs vs ∧ h.DictOf (mixKind P w) a vs := dk_rd ok (.inl e)
theorem key_of {ks : List Key} (ok : HOk P w H h) (e : H a = some (.tup (ks.map kV))) : (tupleKind (mixKind P w)).is h ks a := by
  obtain ⟨_, its, r, o, h1, h2, n, h3⟩ := (show ObjOk P w H h a (.tup (ks.map kV)) from ok a _ e)
  exact ⟨o, its.toArray, n, h1, h2, h3, by simpa using items_are r⟩
theorem dt_rd {kvs : List (List Key × V)} (ok : HOk P w H h) (e : Rd H a (.dT kvs)) : kvs.length ≤ sizeLine ∧ (a == sysModules) = false ∧
    ∃ xs, KT H kvs xs ∧ h.DictOfH (tupleKind (mixKind P w)) a xs := by
  obtain ⟨z, y, xs, r, o, es, ep, h1, h2, h3, h4, h5⟩ := (show ObjOk P w H h a (.dT kvs) from rd_of ok e)
  refine ⟨z, y, xs, r, o, es, ep, h1, h2, h3, h4, fun x hx => ?_, h5⟩
  have all : ∀ {l : List (List Key × V)} {m : List (List Key × Addr × Value)}, KT H l m → ∀ x ∈ m, (tupleKind (mixKind P w)).is h x.1 x.2.1 := by
    intro l m q
    induction q with
    | nil => intro x hx; exact nomatch hx
    | @cons p q ps qs hq t ih =>
      intro x hx
      rcases List.mem_cons.mp hx with e | hx
      · subst e
        exact key_of ok (by rw [← hq.1]; exact hq.2.1)
      · exact ih x hx
  exact all r x hx
theorem dt_of {kvs : List (List Key × V)} (ok : HOk P w H h) (e : H a = some (.dT kvs)) : kvs.length ≤ sizeLine ∧ (a == sysModules) = false ∧
    ∃ xs, KT H kvs xs ∧ h.DictOfH (tupleKind (mixKind P w)) a xs := dt_rd ok (.inl e)
end
def DGet (H : Hp) (a : Addr) (y : V) (r : Option V) : Prop :=
  (∃ kvs k, Rd H a (.dK kvs) ∧ y = kV k ∧ r = valV kvs k) ∨ ∃ kvs k b, Rd H a (.dT kvs) ∧ y = .ref b ∧ H b = some (.tup (k.map kV)) ∧ r = valV kvs k
def DPut (H : Hp) (a : Addr) (y v : V) (H' : Hp) : Prop :=
  (∃ kvs k, H a = some (.dK kvs) ∧ y = kV k ∧ kvs.length < sizeLine ∧ H' = upd H a (.dK (putK kvs k v))) ∨
  ∃ kvs k b, H a = some (.dT kvs) ∧ y = .ref b ∧ H b = some (.tup (k.map kV)) ∧ kvs.length < sizeLine ∧ H' = upd H a (.dT (putK kvs k v))
theorem DGet.k {H : Hp} {a : Addr} {kvs : List (Key × V)} {k : Key} (e : H a = some (.dK kvs)) : DGet H a (kV k) (valV kvs k) := .inl ⟨kvs, k, .inl e, rfl, rfl⟩
theorem DGet.t {H : Hp} {a b : Addr} {kvs : List (List Key × V)} {k : List Key} (e : H a = some (.dT kvs)) (eb : H b = some (.tup (k.map kV))) : DGet H a (.ref b) (valV kvs k) := .inr ⟨kvs, k, b, .inl e, rfl, eb, rfl⟩
theorem DPut.k {H : Hp} {a : Addr} {kvs : List (Key × V)} {k : Key} {v : V} (e : H a = some (.dK kvs)) (hl : kvs.length < sizeLine) : DPut H a (kV k) v (upd H a (.dK (putK kvs k v))) := .inl ⟨kvs, k, e, rfl, hl, rfl⟩
theorem DPut.t {H : Hp} {a b : Addr} {kvs : List (List Key × V)} {k : List Key} {v : V} (e : H a = some (.dT kvs)) (eb : H b = some (.tup (k.map kV))) (hl : kvs.length < sizeLine) :
    DPut H a (.ref b) v (upd H a (.dT (putK kvs k v))) := .inr ⟨kvs, k, b, e, rfl, eb, hl, rfl⟩
section
variable {X : Cx} {pins : List (Addr × Obj)} {σ : St} {H : Hp} {s : Shared} {a : Addr} {y v : V} {u r : Value} {o : Option V} {A : Around} {E : Value → Shared → Prop}
theorem Inv.big (I : Inv X pins σ H s) : sysModules < s.heap.objs.size := by
  have h : mainGlobals < s.heap.objs.size := (I.mod.glob.keeps I.bk).lt
  exact Nat.lt_trans (by decide) h
theorem d_getItem {Q : Value → Shared → Prop} (hu : A.units + 1 < cLine) (I : Inv X pins σ H s) (g : DGet H a y (some v)) (ry : RelV y u) (h : ∀ w' s', Inv X pins σ H s' → RelV v w' → Q w' s') :
    wpAny (model X.prog X.w) A (getItem (.ref a) u) Q E s := by
  rcases g with ⟨kvs, k, e, ey, l⟩ | ⟨kvs, k, b, e, ey, eb, l⟩
  · subst ey
    obtain ⟨z, hd, vs, rel, dd⟩ := dk_rd I.hok e
    obtain ⟨w', hw, rw'⟩ := RelO.some_of (v := v) (o := valueAt vs k) (by rw [l]; exact rel.val k)
    exact wpAny_getItem_of (kV_is ry) dd.mapOf hw (h w' _ (I.tok _) rw')
  · subst ey
    cases (show u = Value.ref b from ry)
    obtain ⟨z, hd, xs, rel, dd⟩ := dt_rd I.hok e
    obtain ⟨w', hw, rw'⟩ := RelO.some_of (v := v) (o := (atKey xs k).map (·.2)) (by rw [l]; exact rel.val k)
    obtain ⟨p, hp, hp2⟩ := Option.map_eq_some_iff.mp hw
    refine wpAny_getItem_heap (tupleKind_room_in1 hu) (key_of I.hok eb) dd hp ?_
    rw [hp2]
    exact h w' _ (I.tok _) rw'
theorem d_in {Q : Value → Shared → Prop} (hu : A.units + 1 < cLine) (I : Inv X pins σ H s) (g : DGet H a y o) (ry : RelV y u) (h : ∀ s', Inv X pins σ H s' → Q (.bool o.isSome) s') :
    wpAny (model X.prog X.w) A (compareOp .In u (.ref a)) Q E s := by
  rcases g with ⟨kvs, k, e, ey, l⟩ | ⟨kvs, k, b, e, ey, eb, l⟩
  · subst ey
    obtain ⟨z, hd, vs, rel, dd⟩ := dk_rd I.hok e
    refine wpAny_in_of (kV_is ry) hd dd.mapOf ?_
    rw [← (rel.val k).isSome_eq, ← l]
    exact h _ (I.tok _)
  · subst ey
    cases (show u = Value.ref b from ry)
    obtain ⟨z, hd, xs, rel, dd⟩ := dt_rd I.hok e
    refine wpAny_in_heap (tupleKind_room_in1 hu) (key_of I.hok eb) hd dd ?_
    have q := (rel.val k).isSome_eq
    rw [Option.isSome_map] at q
    rw [← q, ← l]
    exact h _ (I.tok _)
theorem d_write {h' : Heap} {t' : Nat} {ob : HO} (I : Inv X pins σ H s) (mu : Mut (H a)) (hs : Heap.SameBut a s.heap h') (he : ∃ q, h'.get? a = some q) (new : ObjOk X.prog X.w (upd H a ob) h' a ob) :
    Inv X pins σ (upd H a ob) { s with heap := h', toks := t' } :=
  I.write (x := a) (e := a) mu (.inl rfl) (fun b q hb z => (hs.2 b hb).trans z) he new
theorem dk_new {P : Program} {w : World} {H' : Hp} {h' : Heap} {kvs : List (Key × V)} {vs : List (Key × Value)} (z : kvs.length ≤ sizeLine) (hd : (a == sysModules) = false) (rel : KV kvs vs) (dd : h'.DictOf (mixKind P w) a vs) :
    ObjOk P w H' h' a (.dK kvs) := ⟨z, hd, vs, rel, dd⟩
theorem d_setItem {H' : Hp} {Q : Unit → Shared → Prop} (hu : A.units + 1 < cLine) (I : Inv X pins σ H s) (g : DPut H a y v H') (ry : RelV y u) (rv : RelV v r) (h : ∀ s', Inv X pins σ H' s' → Q () s') :
    wpAny (model X.prog X.w) A (setItem (.ref a) u r) Q E s := by
  rcases g with ⟨kvs, k, e, ey, l, eH⟩ | ⟨kvs, k, b, e, ey, eb, l, eH⟩
  · subst ey eH
    obtain ⟨z, hd, vs, rel, dd⟩ := dk_of I.hok e
    have hz : vs.length ≤ sizeLine := by rw [← rel.length]; exact z
    have hl : (putK kvs k v).length ≤ sizeLine := by have := length_putK kvs k v; omega
    refine wpAny_setItem_pairs (hsz := hz) (kV_is ry) dd fun h' dd' hs => h _ ?_
    have he : ∃ q, h'.get? a = some q := let ⟨q, _, _, hq, _⟩ := dd'; ⟨q, hq⟩
    exact d_write I (by rw [e]; exact True.intro) hs he (dk_new hl hd (rel.put k rv) dd')
  · subst ey eH
    cases (show u = Value.ref b from ry)
    obtain ⟨z, hd, xs, rel, dd⟩ := dt_of I.hok e
    have hz : xs.length ≤ sizeLine := by rw [← Paired.length rel]; exact z
    have hl : (putK kvs k v).length ≤ sizeLine := by have := length_putK kvs k v; omega
    refine wpAny_setItem_heap (hsz := hz) (tupleKind_room_in1 hu) (key_of I.hok eb) dd fun h' dd' hs => h _ ?_
    obtain ⟨q, es, ep, hq, h2, h3, h4, _, h5⟩ := dd'
    refine d_write I (by rw [e]; exact True.intro) hs ⟨q, hq⟩ ⟨hl, hd, _, (rel.put k eb rv).keeps fun c ys ec => ?_, q, es, ep, hq, h2, h3, h4, h5⟩
    rw [upd_ne (ne_of ec e (fun z => nomatch z))]
    exact ec
end
section
variable {X : Cx} {pins : List (Addr × Obj)} {σ : St} {H : Hp} {s : Shared} {a : Addr} {kvs : List (Key × V)} {k : Key} {u : Value} {A : Around} {E : Value → Shared → Prop}
end
def NoSl (i : Expr) : Prop := ∀ ov iv, subscripted i false ov iv = operate [ov, iv] (getItem ov iv)
theorem subD_of {prog : Program} {w : World} {A : Around} {E : Value → Shared → Prop} {s : Shared} {env : Env} {value slice : Expr} {pos : Pos} {T id : String} {Q : Value → Shared → Prop}
    (hl : typeLookup (.type T) "__getitem__" = pure (some (.builtin id))) (hs : NoSl slice)
    (h : wpAny (model prog w) A (eval value env) (fun o s₁ => wpAny (model prog w) A (eval slice env) (fun i s₂ => s₂.TypeIs o T ∧ wpAny (model prog w) A (getItem o i) Q E s₂) E s₁) E s) :
    wpAny (model prog w) A (eval (.Subscript value slice pos) env) Q E s := by
  refine Subscript_ (wpAny_mono h (fun o s₁ h₁ => wpAny_mono h₁ (fun i s₂ h₂ => ?_) fun _ _ x => x) fun _ _ x => x)
  obtain ⟨hT, h₂⟩ := h₂
  unfold subscriptTail
  refine wpAny_bind ?_
  rw [getitemInPython_of_ne hT.not_modules]
  refine wpAny_bind (wpAny_specialOf hT hl ?_)
  have fin : wpAny (model prog w) A (subscripted slice false o i) (fun r s₃ => wpAny (model prog w) A (letTemporaryGo value o r >>= fun _ => pure r) Q E s₃) E s₂ := by
    rw [hs o i]
    exact wpAny_operating (wpAny_mono h₂ (fun r s₃ h₃ => wpAny_bind (wpAny_letTemporaryGo (wpAny_pure h₃))) fun _ _ x => x)
  first
    | exact wpAny_pure (wpAny_bind fin)
    | exact wpAny_bind (wpAny_pure (wpAny_bind fin))
    | exact wpAny_bind fin
theorem dict_typeIs {X : Cx} {pins : List (Addr × Obj)} {σ : St} {H : Hp} {s : Shared} {a : Addr} {y : V} {o : Option V} (I : Inv X pins σ H s) (g : DGet H a y o) : s.TypeIs (.ref a) "dict" := by
  rcases g with ⟨kvs, k, e, _, _⟩ | ⟨kvs, k, b, e, _, _, _⟩
  · obtain ⟨_, _, vs, _, dd⟩ := dk_rd I.hok e
    exact dd.typeIs
  · obtain ⟨_, _, xs, _, dd⟩ := dt_rd I.hok e
    exact dd.typeIs
def tDGet (td ty : TE) : TE := fun σ H Q => td σ H fun x H1 => ty σ H1 fun y H2 => ∃ a v, x = .ref a ∧ DGet H2 a y (some v) ∧ Q v H2
def tDIn (ty td : TE) : TE := fun σ H Q => ty σ H fun y H1 => td σ H1 fun x H2 => ∃ a o, x = .ref a ∧ DGet H2 a y o ∧ Q (.bl o.isSome) H2
def sDPut (td ty tv : TE) : TS := fun D σ H => tv σ H fun v H1 => td σ H1 fun x H2 => ty σ H2 fun y H3 => ∃ a H4, x = .ref a ∧ DPut H3 a y v H4 ∧ D.nx σ H4
section
variable {X : Cx} {o i e value : Expr} {pos pos' tpos : Pos} {td ty tv : TE}
theorem pe_dget (hu : X.A.units + 1 < cLine) (ho : PE X o td) (hi : PE X i ty) (hs : NoSl i) : PE X (.Subscript o i pos) (tDGet td ty) := by
  intro pins s σ H Q I h
  refine subD_of PySem.F.slot_dict_getitem.lookup hs (thn (ho pins s σ H _ I h) fun u s1 ⟨x, H1, I1, rx, q1⟩ => thn (hi pins s1 σ H1 _ I1 q1) fun iv s2 ⟨y, H2, I2, ry, a, v, ex, g, q2⟩ => ?_)
  subst ex
  obtain rfl : u = Value.ref a := rx
  exact ⟨dict_typeIs I2 g, d_getItem hu I2 g ry fun w' s3 I3 rw' => ⟨v, H2, I3, rw', q2⟩⟩
theorem pc_din (hu : X.A.units + 1 < cLine) (hi : PE X i ty) (ho : PE X o td) : PC X .In i o (tDIn ty td) := by
  intro pins s σ H Q I h
  refine thn (hi pins s σ H _ I h) fun iv s1 ⟨y, H1, I1, ry, q1⟩ => thn (ho pins s1 σ H1 _ I1 q1) fun u s2 ⟨x, H2, I2, rx, a, ov, ex, g, q2⟩ => ?_
  subst ex
  obtain rfl : u = Value.ref a := rx
  exact d_in hu I2 g ry fun s3 I3 => ⟨.bl ov.isSome, H2, I3, rfl, q2⟩
theorem ps_dput (hu : X.A.units + 1 < cLine) (ho : PE X o td) (hi : PE X i ty) (hv : PE X value tv) (hs : swapsWith value (some (.Subscript o i pos')) pos.line X.env = pure false) :
    PS X (.Assign [.Subscript o i pos'] value pos) (sDPut td ty tv) := by
  intro pins s σ H D I h
  refine wpAny_Assign_Subscript (thn (hv pins s σ H _ I h) fun r s1 ⟨v, H1, I1, rv, q1⟩ => thn (ho pins s1 σ H1 _ I1 q1) fun u s2 ⟨x, H2, I2, rx, q2⟩ => thn (hi pins s2 σ H2 _ I2 q2) fun iv s3 ⟨y, H3, I3, ry, a, H4, ex, g, q3⟩ => ?_) hs
  subst ex
  obtain rfl : u = Value.ref a := rx
  exact d_setItem hu I3 g ry rv fun s4 I4 => ⟨σ, H4, I4, q3⟩
end
theorem dk_empty {P : Program} {w : World} {H : Hp} (h : Heap) (hb : sysModules < h.objs.size) : ObjOk P w H (h.push { cls := .type "dict", data := .dict #[] }) h.objs.size (.dK []) :=
  ⟨Nat.zero_le _, beq_eq_false_iff_ne.mpr (Ne.symm (Nat.ne_of_lt hb)), [], .nil, Heap.DictOf.new h⟩
def tDNewK : TE := fun _ H Q => ∀ p, H p = none → Q (.ref p) (upd H p (.dK []))
section
variable {X : Cx} {pos : Pos}
theorem pe_dnewK : PE X (.Dict [] [] pos) tDNewK := fun pins s σ H Q I h =>
  wpAny_Dict_empty ⟨.ref s.heap.objs.size, _, I.laid (a := s.heap.objs.size) (o := .dK []) (t' := s.toks) (fun _ _ q => Heap.get?_push_of_some _ q) (Nat.le_refl _) (dk_empty s.heap I.big), rfl, h _ (I.hok.fresh (Nat.le_refl _))⟩
end
structure M1 (X : Cx) (o : Expr) (m : Str) (apos : Pos) (e : Expr) (cpos : Pos) : Prop where
  base : attributeBase o m X.env (eval o X.env) = eval o X.env
  few : ((backTo cpos (starEach [e] X.env)).all (fun x => !x.1) && (backToKw cpos (keywordEach [] X.env)).all (fun x => x.1.isSome)
    && decide (([e] : List Expr).length + ([] : List Keyword).length + (if ([] : List Keyword).isEmpty then 0 else 1) < 30)) = true
  line : (apos.endLine == cpos.line) = true
  trees : backTo cpos (starEach [e] X.env) = [(false, eval e X.env)]
structure M2 (X : Cx) (o : Expr) (m : Str) (apos : Pos) (e f : Expr) (cpos : Pos) : Prop where
  base : attributeBase o m X.env (eval o X.env) = eval o X.env
  few : ((backTo cpos (starEach [e, f] X.env)).all (fun x => !x.1) && (backToKw cpos (keywordEach [] X.env)).all (fun x => x.1.isSome)
    && decide (([e, f] : List Expr).length + ([] : List Keyword).length + (if ([] : List Keyword).isEmpty then 0 else 1) < 30)) = true
  line : (apos.endLine == cpos.line) = true
  trees : backTo cpos (starEach [e, f] X.env) = [(false, eval e X.env), (false, eval f X.env)]
def IsD (H : Hp) (a : Addr) : Prop := (∃ kvs, Rd H a (.dK kvs)) ∨ ∃ kvs, Rd H a (.dT kvs)
theorem isD_at {X : Cx} {pins : List (Addr × Obj)} {σ : St} {H : Hp} {s : Shared} {a : Addr} (I : Inv X pins σ H s) (d : IsD H a) :
    s.TypeIs (.ref a) "dict" ∧ (∀ b, Value.ref a = .ref b → ∃ ob, s.heap.get? b = some ob ∧ ob.dict = none) ∧ (a == sysModules) = false := by
  rcases d with ⟨kvs, e⟩ | ⟨kvs, e⟩
  · obtain ⟨_, hd, vs, _, dd⟩ := dk_rd I.hok e
    refine ⟨dd.typeIs, fun b q => ?_, hd⟩
    cases q
    obtain ⟨ob, _, _, h1, h2, _⟩ := dd
    exact ⟨ob, h1, h2.2.1⟩
  · obtain ⟨_, hd, xs, _, dd⟩ := dt_rd I.hok e
    refine ⟨dd.typeIs, fun b q => ?_, hd⟩
    cases q
    obtain ⟨ob, _, _, h1, h2, _⟩ := dd
    exact ⟨ob, h1, h2.2.1⟩
section
variable {X : Cx} {pins : List (Addr × Obj)} {σ : St} {H : Hp} {s : Shared} {a : Addr} {y d : V} {u r : Value} {o : Option V} {A : Around} {E : Value → Shared → Prop}
theorem d_get2 {Q : Value → Shared → Prop} (hu : A.units + 1 < cLine) (I : Inv X pins σ H s) (g : DGet H a y o) (ry : RelV y u) (rd : RelV d r) (h : ∀ w' s', Inv X pins σ H s' → RelV (o.getD d) w' → Q w' s') :
    wpAny (model X.prog X.w) A (call (.builtin "dict.get") [.ref a, u, r]) Q E s := by
  rcases g with ⟨kvs, k, e, ey, l⟩ | ⟨kvs, k, b, e, ey, eb, l⟩
  · subst ey
    obtain ⟨z, hd, vs, rel, dd⟩ := dk_rd I.hok e
    refine call_meetsIn PySem.F.slot_dict_get dd.typeIs PySem.F.entry_dict_get (PySem.F.args_dict_get_3 _ _ _) (meets_dict_get_default (mixKind X.prog X.w) a (kV_is ry) hd r) ⟨_, dd.mapOf, h _ _ (I.tok _) ?_⟩
    rw [l]
    exact (rel.val k).getD rd
  · subst ey
    cases (show u = Value.ref b from ry)
    obtain ⟨z, hd, xs, rel, dd⟩ := dt_rd I.hok e
    refine call_meetsIn PySem.F.slot_dict_get dd.typeIs PySem.F.entry_dict_get (PySem.F.args_dict_get_3 _ _ _) (meetsH_dict_get_default (tupleKind (mixKind X.prog X.w)) a b hd r) ⟨tupleKind_room_in1 hu, k, xs, key_of I.hok eb, dd, h _ _ (I.tok _) ?_⟩
    rw [l]
    exact (rel.val k).getD rd
end
def tDGet2 (td ty tx : TE) : TE := fun σ H Q => td σ H fun x H1 => ∃ a, x = .ref a ∧ IsD H1 a ∧ ty σ H1 fun y H2 => tx σ H2 fun z H3 => ∃ o, DGet H3 a y o ∧ Q (o.getD z) H3
section
variable {X : Cx} {o e f : Expr} {apos cpos : Pos} {td ty tx : TE}
theorem pe_dget2 (hu : X.A.units + 1 < cLine) (ho : PE X o td) (he : PE X e ty) (hf : PE X f tx) (m : M2 X o "get" apos e f cpos) : PE X (.Call (.Attribute o "get" apos) [e, f] [] cpos) (tDGet2 td ty tx) := by
  intro pins s σ H Q I h
  refine wpAny_Call_method m.base m.few m.line PySem.F.plainAttrs_dict PySem.F.slot_dict_get PySem.F.type_dict_get (thn (ho pins s σ H _ I h) fun u s1 ⟨x, H1, I1, rx, a, ex, d, q1⟩ => ?_)
  subst ex
  obtain rfl : u = Value.ref a := rx
  obtain ⟨t1, t2, _⟩ := isD_at I1 d
  refine ⟨t1, t2, ?_⟩
  rw [m.trees]
  refine Calls.callWith_builtin rfl (Calls.evalArgs_plain (Calls.spliced_cons (thn (he pins s1 σ H1 _ I1 q1) fun iv s2 ⟨y, H2, I2, ry, q2⟩ =>
    Calls.spliced_cons (thn (hf pins s2 σ H2 _ I2 q2) fun fv s3 ⟨z, H3, I3, rz, ov, g, q3⟩ => Calls.spliced_nil ?_))))
  exact d_get2 hu I3 g ry rz fun w' s4 I4 rw' => ⟨_, H3, I4, rw', q3⟩
end
section
variable {X : Cx} {pins : List (Addr × Obj)} {σ : St} {H : Hp} {s : Shared} {a : Addr} {kvs : List (Key × V)} {A : Around} {E : Value → Shared → Prop}
end
section
variable {X : Cx} {pins : List (Addr × Obj)} {σ : St} {H : Hp} {s : Shared} {a : Addr} {y : V} {u : Value} {A : Around} {E : Value → Shared → Prop}
end
end L2
namespace HT
open PySem PyProof.Rows
section
open PySem.SeqAt
open PySem.AutoSeq1 (wpAny_loadPart')
open PySem.MeetsSeq PySem.MeetsSeq2 PySem.MeetsSeq3
end
section
variable {prog : Program} {w : World} {A : Around} {E : Value → Shared → Prop} {s : Shared}
end
end HT
namespace L2
open PySem PySem.Spec PyProof.Rows
abbrev TO := St → Hp → (Option Int → Hp → Prop) → Prop
theorem intsAre_of {ns : List Int} : ∀ {us : List Value}, Vals (ns.map V.int) us → IntsAre us ns := by
  induction ns with
  | nil => intro us r; rw [List.map_nil] at r; cases r; exact .nil
  | cons n ns ih =>
    intro us r
    rw [List.map_cons] at r
    cases r with
    | cons r1 r2 =>
      obtain ⟨t, e⟩ := r1
      subst e
      exact .cons n t (ih r2)
section
variable {X : Cx} {e : Expr} {te : TE} {lo hi : Option Expr} {tl th : TO} {pos p2 : Pos}
end
end L2
namespace L2
open PySem PySem.Spec PyProof.Rows
def ixN (n : Nat) (i : Int) : Option Nat := if 0 ≤ i then (if i < n then some i.toNat else none) else if -(n : Int) ≤ i then some (i + n).toNat else none
def atI {α : Type} (xs : List α) (i : Int) : Option α := (ixN xs.length i).bind fun j => xs[j]?
theorem ixN_seq {n : Nat} {i : Int} {j : Nat} (h : ixN n i = some j) : seqIndex? i n = some j ∧ j < n ∧ -(n : Int) ≤ i ∧ i < n := by
  unfold ixN at h
  by_cases h0 : 0 ≤ i
  · rw [if_pos h0] at h
    by_cases h1 : i < n
    · rw [if_pos h1] at h
      have e : i.toNat = j := Option.some.inj h
      exact ⟨by rw [seqIndex_of h0 h1, e], by omega, by omega, h1⟩
    · rw [if_neg h1] at h; cases h
  · rw [if_neg h0] at h
    by_cases h1 : -(n : Int) ≤ i
    · rw [if_pos h1] at h
      have e : (i + n).toNat = j := Option.some.inj h
      exact ⟨by rw [seqIndex_neg (by omega) h1, e], by omega, h1, by omega⟩
    · rw [if_neg h1] at h; cases h
theorem atI_get {α : Type} {xs : List α} {i : Int} {v : α} (h : atI xs i = some v) : ∃ j, seqIndex? i xs.length = some j ∧ xs[j]? = some v ∧ j < xs.length ∧ -(xs.length : Int) ≤ i ∧ i < xs.length := by
  unfold atI at h
  cases e : ixN xs.length i with
  | none => rw [e] at h; cases h
  | some j =>
    rw [e] at h
    obtain ⟨h1, h2, h3, h4⟩ := ixN_seq e
    exact ⟨j, h1, h, h2, h3, h4⟩
theorem atI_nat {α : Type} {xs : List α} {j : Nat} {v : α} (h : xs[j]? = some v) : atI xs (j : Int) = some v := by
  have hj : j < xs.length := (List.getElem?_eq_some_iff.mp h).1
  have e : ixN xs.length (j : Int) = some j := by
    unfold ixN
    rw [if_pos (by omega), if_pos (by omega)]; simp
  unfold atI; rw [e]; exact h
def PlainIx (b : Expr) : Prop := ∀ o i, subscripted b false o i = operate [o, i] (getItem o i)
def IxR (X : Cx) (r : R2) : Prop :=
  ∀ (value slice : Expr) (pins : List (Addr × Obj)) (s : Shared) (σ : St) (H : Hp) (x y : V) (v u : Value) (Q : VK), Inv X pins σ H s → RelV x v → RelV y u → r x y H Q →
    subscripted slice false v u = operate [v, u] (getItem v u) → wpAny (model X.prog X.w) X.A (subscriptTail value slice v u) (EP X pins σ Q) X.xe s
def MtR (X : Cx) (id : String) (r : V → List V → Hp → VK → Prop) : Prop :=
  ∀ (pins : List (Addr × Obj)) (s : Shared) (σ : St) (H : Hp) (x : V) (xs : List V) (v : Value) (us : List Value) (Q : VK), Inv X pins σ H s → RelV x v → Vals xs us → r x xs H Q →
    wpAny (model X.prog X.w) X.A (call (.builtin id) (v :: us)) (EP X pins σ Q) X.xe s
section
variable {X : Cx} {a b : Expr} {ta tb : TE} {pos : Pos}
theorem pe_ix {r : R2} (hr : IxR X r) (ha : PE X a ta) (hb : PE X b tb) (hs : PlainIx b) : PE X (.Subscript a b pos) (tOp r ta tb) := by
  intro pins s σ H Q I h
  exact Subscript_ (binT ha hb I h fun v u s2 x y H2 I2 rx ry q => hr a b pins s2 σ H2 x y v u Q I2 rx ry q (hs _ _))
def rIxL (K : PySem.W.Frag) : R2 := fun x y H Q => ∃ p xs i v, x = .ref p ∧ y = .int i ∧ SqL K H p xs ∧ atI xs i = some v ∧ Q v H
theorem ix_list : IxR X (rIxL X.K) := by
  intro value slice pins s σ H x y v u Q I rx ry h hs
  obtain ⟨p, xs, i, z, rfl, rfl, hq, he, q⟩ := h
  cases rx
  obtain ⟨t, rfl⟩ := ry
  obtain ⟨its, r, pl, hz⟩ := I.list hq
  obtain ⟨j, h1, h2, h3, h4, h5⟩ := atI_get he
  obtain ⟨w, ew, rw'⟩ := r.get h2
  have hl := r.length
  have hn := line63
  have fin : EP X pins σ Q w s := ⟨z, H, I, rw', q⟩
  by_cases h0 : 0 ≤ i
  · have hj : i.toNat = j := by
      rw [seqIndex_of h0 h5] at h1
      exact Option.some.inj h1
    exact item_listR pl.isList h0 (by omega) (by rw [hj]; simpa using ew) fin hs
  · have hj : (i + (its.toArray.size : Int)).toNat = j := by
      rw [seqIndex_neg (by omega) h4] at h1
      rw [List.size_toArray, ← hl]
      exact Option.some.inj h1
    exact subscriptTail_builtinR (x := w) pl.isList.typeIs slot_list_getitem.lookup
      (wpAny_getItem_list_neg (Q := fun r s' => r = w ∧ EP X pins σ Q r s') pl.isList (by omega) (by rw [List.size_toArray] <;> omega) (by omega) (by rw [hj]; simpa using ew) ⟨rfl, fin⟩) hs
theorem mapSeq_set (its : List Value) (n j : Nat) (u : Value) : Obj.mapSeq (·.setIfInBounds j u) { cls := .type "list", data := .seq its.toArray n } = { cls := .type "list", data := .seq (its.set j u).toArray n } := by
  simp [Obj.mapSeq]
theorem Inv.lst {pins : List (Addr × Obj)} {σ : St} {H : Hp} {s : Shared} {p : Addr} {xs : List V} (I : Inv X pins σ H s) (h : H p = some (.lst xs)) :
    ∃ (its : List Value) (n : Nat), Vals xs its ∧ s.heap.get? p = some { cls := .type "list", data := .seq its.toArray n } ∧ xs.length ≤ sizeLine := by
  obtain ⟨z, its, n, r, e⟩ := I.hok p _ h
  exact ⟨its, n, r, e, z⟩
theorem Inv.lstUpd {pins : List (Addr × Obj)} {σ : St} {H : Hp} {s : Shared} {p : Addr} {xs ys : List V} {its its' : List Value} {n n' : Nat} {f : Obj → Obj} (I : Inv X pins σ H s) (h : H p = some (.lst xs))
    (ho : s.heap.get? p = some { cls := .type "list", data := .seq its.toArray n }) (hf : f { cls := .type "list", data := .seq its.toArray n } = { cls := .type "list", data := .seq its'.toArray n' }) (r : Vals ys its') (hz : ys.length ≤ sizeLine) (t : Nat) :
    Inv X pins σ (upd H p (.lst ys)) { s with heap := s.heap.update p f, toks := t } := by
  have e : (s.heap.update p f).get? p = some { cls := .type "list", data := .seq its'.toArray n' } := by
    rw [Heap.get?_update_self f ho (by rw [hf] <;> rfl), hf]
  refine I.write (x := p) (e := p) (by rw [h]; trivial) (.inl rfl) (fun b u hb q => (Heap.get?_update_other _ _ (Ne.symm hb)).trans q) ⟨_, e⟩ ?_
  exact ⟨hz, its', n', r, e⟩
def rSetL : V → V → V → Hp → (Hp → Prop) → Prop := fun o i v H Q => ∃ p xs k j, o = .ref p ∧ i = .int k ∧ H p = some (.lst xs) ∧ ixN xs.length k = some j ∧ Q (upd H p (.lst (xs.set j v)))
theorem set_list : PSet X rSetL := by
  intro pins s σ H o i v ov iv u Q I ro ri rv h
  obtain ⟨p, xs, k, j, rfl, rfl, hp, hj, q⟩ := h
  cases ro
  obtain ⟨t, rfl⟩ := ri
  obtain ⟨its, n, r, ho, hz⟩ := I.lst hp
  obtain ⟨h1, h2, h3, h4⟩ := ixN_seq hj
  have hl := r.length
  have hn := line63
  have I' : Inv X pins σ (upd H p (.lst (xs.set j v))) { s with heap := s.heap.update p (Obj.mapSeq (·.setIfInBounds j u)) } :=
    I.lstUpd hp ho (mapSeq_set its n j u) (r.set rv j) (by rw [List.length_set]; exact hz) s.toks
  by_cases h0 : 0 ≤ k
  · have hk : k.toNat = j := by
      rw [seqIndex_of h0 h4] at h1
      exact Option.some.inj h1
    exact PySem.W.ki_setAt ho h0 (by omega) (by rw [List.size_toArray, ← hl]; exact h4) (by rw [hk]; exact ⟨_, I', q⟩)
  · have hk : (k + (its.toArray.size : Int)).toNat = j := by
      rw [seqIndex_neg (by omega) h3] at h1
      rw [List.size_toArray, ← hl]
      exact Option.some.inj h1
    exact PySem.W.ki_setBack ho (by omega) (by rw [List.size_toArray, ← hl]; exact h3) (by omega) (by rw [hk]; exact ⟨_, I', q⟩)
def flatV : V → Bool
  | .non => true
  | .bl _ => true
  | .int _ => true
  | .str _ => true
  | _ => false
def eqV : V → V → Bool
  | .non, .non => true
  | .bl a, .bl b => a == b
  | .bl a, .int b => (if a then 1 else 0) == b
  | .int a, .bl b => a == (if b then 1 else 0)
  | .int a, .int b => a == b
  | .str a, .str b => a == b
  | _, _ => false
theorem eqAt_V {A : Around} {s : Shared} {y x : V} {u v : Value} (ry : RelV y u) (rx : RelV x v) (fy : flatV y = true) (fx : flatV x = true) : SeqAt.EqAt A s u v (eqV y x) := by
  cases y with
  | non =>
    cases ry
    cases x with
    | non => cases rx; exact SeqAt.EqAt.same _
    | bl b => cases rx; exact SeqAt.EqAt.none_bool b
    | int b => obtain ⟨t, rfl⟩ := rx; exact SeqAt.EqAt.none_int b t
    | str b => obtain ⟨t, rfl⟩ := rx; exact SeqAt.EqAt.none_str b t
    | _ => exact absurd (show false = true from fx) Bool.false_ne_true
  | bl a =>
    cases ry
    cases x with
    | non => cases rx; exact SeqAt.EqAt.bool_none a
    | bl b => cases rx; exact SeqAt.EqAt.bool_bool a b
    | int b => obtain ⟨t, rfl⟩ := rx; exact SeqAt.EqAt.bool_int a b t
    | str b => obtain ⟨t, rfl⟩ := rx; exact SeqAt.EqAt.bool_str a b t
    | _ => exact absurd (show false = true from fx) Bool.false_ne_true
  | int a =>
    obtain ⟨t', rfl⟩ := ry
    cases x with
    | non => cases rx; exact SeqAt.EqAt.int_none a t'
    | bl b => cases rx; exact SeqAt.EqAt.int_bool a t' b
    | int b => obtain ⟨t, rfl⟩ := rx; exact SeqAt.EqAt.int_int a t' b t
    | str b => obtain ⟨t, rfl⟩ := rx; exact SeqAt.EqAt.int_str a t' b t
    | _ => exact absurd (show false = true from fx) Bool.false_ne_true
  | str a =>
    obtain ⟨t', rfl⟩ := ry
    cases x with
    | non => cases rx; exact SeqAt.EqAt.str_none a t'
    | bl b => cases rx; exact SeqAt.EqAt.str_bool a t' b
    | int b => obtain ⟨t, rfl⟩ := rx; exact SeqAt.EqAt.str_int a t' b t
    | str b => obtain ⟨t, rfl⟩ := rx; exact SeqAt.EqAt.str_str a t' b t
    | _ => exact absurd (show false = true from fx) Bool.false_ne_true
  | _ => exact absurd (show false = true from fy) Bool.false_ne_true
theorem op_notIn_str : OpR X (compareOp .NotIn) (fun x y H Q => ∃ i j, x = .str i ∧ y = .str j ∧ Q (.bl (!(!(Builtin.Str.occurrences j i 0 j.length 1).isEmpty))) H) := by
  intro pins s σ H x y v u Q I rx ry h
  obtain ⟨i, j, rfl, rfl, q⟩ := h
  obtain ⟨t, rfl⟩ := rx
  obtain ⟨t', rfl⟩ := ry
  exact notIn_str ⟨.bl _, H, I, rfl, q⟩
theorem call_len_seq : CallR X (.builtin "len") (fun xs H Q => ∃ p ys, xs = [.ref p] ∧ (SqL X.K H p ys ∨ SqT X.K H p ys) ∧ Q (.int ys.length) H) := by
  intro pins s σ H xs us Q I r h
  obtain ⟨p, ys, rfl, hq, q⟩ := h
  obtain ⟨u, rfl, rx⟩ := vals1 r
  cases rx
  have hn := line63
  rcases hq with hq | hq
  · obtain ⟨its, r', pl, hz⟩ := I.list hq
    have hlen := r'.length
    exact Calls.call_len_list pl.isList (by simp only [List.size_toArray] <;> omega) ⟨.int ys.length, H, I.tok _, ⟨s.toks + 1, by rw [List.size_toArray, hlen]⟩, q⟩
  · obtain ⟨its, r', pl, hz⟩ := I.tuple hq
    have hlen := r'.length
    exact len_tuple pl (by simp only [List.size_toArray] <;> omega) ⟨.int ys.length, H, I.tok _, ⟨s.toks + 1, by rw [List.size_toArray, hlen]⟩, q⟩
theorem call_list_of : CallR X (.type "list") (fun xs H Q => ∃ p ys, xs = [.ref p] ∧ (SqL X.K H p ys ∨ SqT X.K H p ys) ∧ ∀ l, H l = none → Q (.ref l) (upd H l (.lst ys))) := by
  intro pins s σ H xs us Q I r h
  obtain ⟨p, ys, rfl, hq, q⟩ := h
  obtain ⟨u, rfl, rx⟩ := vals1 r
  cases rx
  have fin : ∀ (its : List Value), Vals ys its → ys.length ≤ sizeLine → ∀ (h' : Heap) (c' : Nat), (∀ b o', s.heap.get? b = some o' → h'.get? b = some o') →
      h'.get? s.heap.objs.size = some { cls := .type "list", dict := none, data := .seq its.toArray c', slots := #[] } → EP X pins σ Q (.ref s.heap.objs.size) { s with heap := h' } := fun its r' hz h' c' kp e =>
    ⟨.ref s.heap.objs.size, _, I.laid (t' := s.toks) kp (Nat.le_refl _) (show ObjOk X.prog X.w _ h' _ (.lst ys) from ⟨hz, its, c', r', e⟩), rfl, q _ (I.hok.fresh (Nat.le_refl _))⟩
  rcases hq with hq | hq
  · obtain ⟨its, r', pl, hz⟩ := I.list hq
    have hlen := r'.length
    obtain ⟨o, ho, hc, n, hd⟩ := pl.isList
    exact call_list_seq p (.inl rfl) ho hc hd (fun h' c' kp e => fin its r' hz h' c' kp e) (by simp only [List.size_toArray] <;> omega)
  · obtain ⟨its, r', pl, hz⟩ := I.tuple hq
    have hlen := r'.length
    obtain ⟨o, ho, hc, n, hd⟩ := pl
    exact call_list_seq p (.inr rfl) ho hc hd (fun h' c' kp e => fin its r' hz h' c' kp e) (by simp only [List.size_toArray] <;> omega)
def tyV (K : PySem.W.Frag) (T : String) (x : V) (H : Hp) : Prop := match x with
  | .str _ => T = "str"
  | .int _ => T = "int"
  | .ref p => (T = "list" ∧ ∃ xs, SqL K H p xs) ∨ (T = "tuple" ∧ ∃ o, K.lookup p = some o ∧ o.cls = .type "tuple" ∧ o.dict = none) ∨
      (T = "dict" ∧ ((∃ kvs, H p = some (.dK kvs)) ∨ ∃ kvs, H p = some (.dT kvs))) ∨ (T = "set" ∧ ∃ S n, H p = some (.set S n))
  | _ => False
theorem tyV_is {pins : List (Addr × Obj)} {σ : St} {H : Hp} {s : Shared} {T : String} {x : V} {v : Value} (I : Inv X pins σ H s) (r : RelV x v) (ty : tyV X.K T x H) :
    s.TypeIs v T ∧ ∀ a, v = .ref a → ∃ ob, s.heap.get? a = some ob ∧ ob.dict = none := by
  cases x with
  | str z =>
    obtain ⟨t, rfl⟩ := r
    cases (show T = "str" from ty)
    exact ⟨typeIs_str s z t, fun _ e => nomatch e⟩
  | int i =>
    obtain ⟨t, rfl⟩ := r
    cases (show T = "int" from ty)
    exact ⟨typeIs_int s i t, fun _ e => nomatch e⟩
  | ref p =>
    cases r
    rcases ty with ⟨rfl, xs, hq⟩ | ⟨rfl, o, hk, hc, hd⟩ | ⟨rfl, hk⟩ | ⟨rfl, S, n, hk⟩
    · obtain ⟨its, _, pl, _⟩ := I.list hq
      refine ⟨pl.isList.typeIs, fun a e => ?_⟩
      cases e
      obtain ⟨o, n, e, c, hd, _⟩ := pl
      exact ⟨o, e, hd⟩
    · refine ⟨⟨o, I.kIn p o hk, hc⟩, fun a e => ?_⟩
      cases e
      exact ⟨o, I.kIn _ o hk, hd⟩
    · have z : ∃ o, s.heap.get? p = some o ∧ o.ExactDict := by
        rcases hk with ⟨kvs, hk⟩ | ⟨kvs, hk⟩
        · obtain ⟨_, _, _, _, o, _, _, e, ex, _⟩ := I.hok p _ hk
          exact ⟨o, e, ex⟩
        · obtain ⟨_, _, _, _, o, _, _, e, ex, _⟩ := I.hok p _ hk
          exact ⟨o, e, ex⟩
      obtain ⟨o, e, ex⟩ := z
      refine ⟨⟨o, e, ex.1⟩, fun a e2 => ?_⟩
      cases e2
      exact ⟨o, e, ex.2.1⟩
    · obtain ⟨o, _, _, _, e, ex, _⟩ := I.hok p _ hk
      refine ⟨⟨o, e, ex.1⟩, fun a e2 => ?_⟩
      cases e2
      exact ⟨o, e, ex.2.1⟩
  | _ => exact False.elim ty
def tBM (K : PySem.W.Frag) (T : String) (r : V → List V → Hp → VK → Prop) (to : TE) (t : TA) : TE := fun σ H Q => to σ H fun x H1 => tyV K T x H1 ∧ t σ H1 fun xs H2 => r x xs H2 Q
variable {o e : Expr} {es : List Expr} {to : TE} {t : TA} {name : Str} {apos cpos : Pos} {T id : String} {r : V → List V → Hp → VK → Prop}
theorem pe_bm (pa : PlainAttrs T) (slot : Slot T name id) (hty : typeOf (.builtin id) = pure (.type "method_descriptor")) (hm : MtR X id r) (ho : PE X o to) (ha : PA X (e :: es) t)
    (hbase : attributeBase o name X.env (eval o X.env) = eval o X.env := by rfl)
    (hfew : ((backTo cpos (starEach (e :: es) X.env)).all (fun x => !x.1) && (backToKw cpos (keywordEach [] X.env)).all (fun x => x.1.isSome)
      && decide ((e :: es).length + ([] : List Keyword).length + (if ([] : List Keyword).isEmpty then 0 else 1) < 30)) = true := by rfl)
    (hline : (apos.endLine == cpos.line) = true := by rfl) (hs : starEach (e :: es) X.env = (false, eval e X.env) :: starEach es X.env := by rfl) (hplain : (backTo cpos (starEach es X.env)).any (·.1) = false := by rfl) :
    PE X (.Call (.Attribute o name apos) (e :: es) [] cpos) (tBM X.K T r to t) := by
  intro pins s σ H Q I h
  refine wpAny_Call_method_late hbase hfew hline rfl (thn (ho pins s σ H _ I h) fun v s1 ⟨x, H1, I1, r1, ty, q1⟩ => ?_)
  obtain ⟨h1, h2⟩ := tyV_is I1 r1 ty
  refine ⟨T, id, pa, slot, hty, h1, h2, ?_⟩
  have hA := ha cpos pins s1 σ H1 _ I1 q1
  rw [hs] at hA ⊢
  refine Calls.callWith_builtin (by show (false || (backTo cpos (starEach es X.env)).any (·.1)) = false; rw [hplain] <;> rfl) (Calls.evalArgs_plain ?_)
  exact thn hA fun us s2 ⟨vs, H2, I2, r2, q2⟩ => hm pins s2 σ H2 x vs v us Q I2 r1 r2 q2
end
end L2
namespace L2
open PySem PySem.Spec PyProof.Rows
def MtM (X : Cx) (id : String) (r : V → List V → Hp → VK → Prop) : Prop :=
  ∀ (pins : List (Addr × Obj)) (s : Shared) (σ : St) (H : Hp) (x : V) (xs : List V) (v : Value) (us : List Value) (Q : VK), Inv X pins σ H s → RelV x v → Vals xs us → r x xs H Q →
    wpAny (model X.prog X.w) X.A (call (.builtin id) (v :: us)) (EP X pins σ Q) X.xe s
theorem Vals.one : ∀ {x : V} {us : List Value}, Vals [x] us → ∃ u, us = [u] ∧ RelV x u
  | _, _, .cons r .nil => ⟨_, rfl, r⟩
theorem Vals.two : ∀ {x y : V} {us : List Value}, Vals [x, y] us → ∃ u v, us = [u, v] ∧ RelV x u ∧ RelV y v
  | _, _, _, .cons r (.cons q .nil) => ⟨_, _, rfl, r, q⟩
theorem Vals.zero : ∀ {us : List Value}, Vals [] us → us = []
  | _, .nil => rfl
theorem Vals.reverse {xs : List V} {us : List Value} (h : Vals xs us) : Vals xs.reverse us.reverse := by
  induction h with
  | nil => exact .nil
  | cons r t ih => rw [List.reverse_cons, List.reverse_cons]; exact Vals.append ih (.cons r .nil)
theorem Vals.rep {xs : List V} {us : List Value} (h : Vals xs us) : ∀ k : Nat, Vals (List.replicate k xs).flatten (List.replicate k us).flatten
  | 0 => .nil
  | k + 1 => by
    rw [List.replicate_succ, List.replicate_succ, List.flatten_cons, List.flatten_cons]
    exact Vals.append h (Vals.rep h k)
theorem foldl_rep (its : List Value) : ∀ (k : Nat) (acc : List Value),
    List.foldl (fun x1 x2 => x1 ++ x2) acc.toArray (List.replicate k its.toArray) = (acc ++ (List.replicate k its).flatten).toArray
  | 0, acc => by simp
  | k + 1, acc => by
    have e : acc.toArray ++ its.toArray = (acc ++ its).toArray := by simp
    have e2 : (acc ++ its) ++ (List.replicate k its).flatten = acc ++ (List.replicate (k + 1) its).flatten := by
      rw [List.replicate_succ, List.flatten_cons, List.append_assoc]
    rw [← e2, ← foldl_rep its k (acc ++ its), ← e, List.replicate_succ, List.foldl_cons]
section
variable {X : Cx} {pins : List (Addr × Obj)} {σ : St} {H : Hp} {s : Shared} {l b : Addr} {xs ys zs : List V}
theorem Inv.lset {its its' : List Value} {n : Nat} {f : Array Value → Array Value} {t' : Nat} (I : Inv X pins σ H s) (hH : H l = some (.lst xs))
    (e : s.heap.get? l = some { cls := .type "list", data := .seq its.toArray n }) (hf : f its.toArray = its'.toArray) (hv : Vals ys its') (hz : ys.length ≤ sizeLine) :
    Inv X pins σ (upd H l (.lst ys)) { s with heap := s.heap.update l (Obj.mapSeq f), toks := t' } := by
  have q := PySem.IsL.update e f
  rw [hf] at q
  refine I.write (x := l) (e := l) (by rw [hH]; exact trivial) (.inl rfl) (fun b' u hb hu => (Heap.get?_update_other s.heap (Obj.mapSeq f) (Ne.symm hb)).trans hu) ⟨_, q⟩ ?_
  exact ⟨hz, its', _, hv, q⟩
theorem Inv.lnew {its : List Value} {t' : Nat} (I : Inv X pins σ H s) (hv : Vals ys its) (hz : ys.length ≤ sizeLine) :
    Inv X pins σ (upd H s.heap.objs.size (.lst ys)) { s with heap := s.heap.push { cls := .type "list", data := .seq its.toArray }, toks := t' } :=
  I.laid (fun _ _ q => Heap.get?_push_of_some _ q) (Nat.le_refl _) ⟨hz, its, 0, hv, Heap.get?_push_size _ rfl⟩
theorem Inv.fresh (I : Inv X pins σ H s) : H s.heap.objs.size = none := I.hok.fresh (Nat.le_refl _)
theorem Inv.lstM (I : Inv X pins σ H s) (hH : H l = some (.lst xs)) : xs.length ≤ sizeLine ∧ ∃ (its : List Value) (n : Nat), Vals xs its ∧ xs.length = its.length ∧ s.heap.get? l = some { cls := .type "list", data := .seq its.toArray n } := by
  obtain ⟨z, its, n, r, e⟩ := I.hok l _ hH
  exact ⟨z, its, n, r, r.length, e⟩
theorem notLongL {n : Nat} (h : n ≤ sizeLine) : Builtin.List.listTooLong n = false := by
  unfold Builtin.List.listTooLong
  exact decide_eq_false (by omega)
end
section
variable {X : Cx}
def rAppend : V → List V → Hp → VK → Prop := fun x vs H Q => ∃ l xs y, x = .ref l ∧ vs = [y] ∧ H l = some (.lst xs) ∧ xs.length < sizeLine ∧ Q .non (upd H l (.lst (xs ++ [y])))
theorem mt_append : MtM X "list.append" rAppend := by
  intro pins s σ H x vs v us Q I rx rv h
  obtain ⟨l, xs, y, rfl, rfl, hH, hz, q⟩ := h
  cases rx
  obtain ⟨u, rfl, ru⟩ := rv.one
  obtain ⟨z, its, n, r, hl, e⟩ := I.lstM hH
  refine call_meets F.slot_list_append ⟨_, e, rfl⟩ F.entry_list_append (F.args_list_append_2 _ _) (PySem.list_append l its.toArray n u (by rw [List.size_toArray]; omega)) ⟨e, ?_⟩
  refine ⟨.non, _, I.lset (its' := its ++ [u]) hH e (by simp) (r.append (.cons ru .nil)) ?_, rfl, q⟩
  rw [List.length_append, List.length_singleton]
  omega
def rExtend : V → List V → Hp → VK → Prop := fun x vs H Q => ∃ l b xs zs, x = .ref l ∧ vs = [.ref b] ∧ H l = some (.lst xs) ∧ H b = some (.lst zs) ∧ xs.length + zs.length ≤ sizeLine ∧ Q .non (upd H l (.lst (xs ++ zs)))
theorem mt_extend : MtM X "list.extend" rExtend := by
  intro pins s σ H x vs v us Q I rx rv h
  obtain ⟨l, b, xs, zs, rfl, rfl, hH, hB, hz, q⟩ := h
  cases rx
  obtain ⟨u, rfl, ru⟩ := rv.one
  cases ru
  obtain ⟨z, its, n, r, hl, e⟩ := I.lstM hH
  obtain ⟨z2, its2, n2, r2, hl2, e2⟩ := I.lstM hB
  have hsz : its.toArray.size + its2.toArray.size ≤ sizeLine := by rw [List.size_toArray, List.size_toArray]; omega
  have hlong : ¬ (!its.toArray.isEmpty && Builtin.List.listTooLong (its.toArray.size + its2.toArray.size)) = true := by
    rw [notLongL hsz, Bool.and_false]
    exact Bool.false_ne_true
  refine call_meets F.slot_list_extend ⟨_, e, rfl⟩ F.entry_list_extend (F.args_list_extend_2 _ _)
    (AutoSeq1.list_extend_list_list_0 l its.toArray n b its2.toArray n2 hlong (by rw [List.size_toArray]; omega) (by omega)) ⟨e, e2, ?_⟩
  refine ⟨.non, _, I.lset (its' := its ++ its2) hH e (by simp) (r.append r2) ?_, rfl, q⟩
  rw [List.length_append]
  omega
def rCat : R2 := fun x y H Q => ∃ l b xs zs, x = .ref l ∧ y = .ref b ∧ H l = some (.lst xs) ∧ H b = some (.lst zs) ∧ xs.length + zs.length ≤ sizeLine ∧ ∀ p, H p = none → Q (.ref p) (upd H p (.lst (xs ++ zs)))
theorem op_cat : OpR X (binaryOp .Add) rCat := by
  intro pins s σ H x y v u Q I rx ry h
  obtain ⟨l, b, xs, zs, rfl, rfl, hH, hB, hz, q⟩ := h
  cases rx
  cases ry
  obtain ⟨z, its, n, r, hl, e⟩ := I.lstM hH
  obtain ⟨z2, its2, n2, r2, hl2, e2⟩ := I.lstM hB
  refine PySem.P.add_list e e2 ?_ (by rw [List.size_toArray, List.size_toArray]; omega)
  have ea : its.toArray ++ its2.toArray = (its ++ its2).toArray := by simp
  rw [ea]
  exact ⟨.ref _, _, I.lnew (t' := s.toks) (r.append r2) (by rw [List.length_append]; omega), rfl, q _ I.fresh⟩
def rRep : R2 := fun x y H Q => ∃ l k xs, x = .ref l ∧ y = .int k ∧ H l = some (.lst xs) ∧ -(2 ^ 63) ≤ k ∧ k < 2 ^ 63 ∧ xs.length * k.toNat ≤ sizeLine ∧
  ∀ p, H p = none → Q (.ref p) (upd H p (.lst (List.replicate k.toNat xs).flatten))
theorem len_rep {α : Type} (xs : List α) (k : Nat) : (List.replicate k xs).flatten.length = k * xs.length := by
  induction k with
  | zero => simp
  | succ k ih => rw [List.replicate_succ, List.flatten_cons, List.length_append, ih, Nat.succ_mul, Nat.add_comm]
theorem op_rep : OpR X (binaryOp .Mult) rRep := by
  intro pins s σ H x y v u Q I rx ry h
  obtain ⟨l, k, xs, rfl, rfl, hH, h1, h2, hz, q⟩ := h
  cases rx
  obtain ⟨t, rfl⟩ := ry
  obtain ⟨z, its, n, r, hl, e⟩ := I.lstM hH
  have hlen : its.toArray.size * k.toNat ≤ sizeLine := by rw [List.size_toArray, ← hl]; exact hz
  have hcap : ¬ its.toArray.size * k.toNat > (2 ^ 63 - 1) / 8 := by
    have : (sizeLine : Nat) ≤ (2 ^ 63 - 1) / 8 := by decide
    omega
  have hfit : ¬ (!Builtin.List.listFitsIndex k) = true := by
    rw [fitsIndex_both h1 h2]
    exact Bool.false_ne_true
  have hlong : ¬ Builtin.List.listTooLong (its.toArray.size * k.toNat) = true := by
    rw [notLongL hlen]
    exact Bool.false_ne_true
  have hnew : List.foldl (fun x1 x2 => x1 ++ x2) #[] (List.replicate (if its.toArray.isEmpty = true then 0 else k.toNat) its.toArray) = (List.replicate k.toNat its).flatten.toArray := by
    have f0 : ∀ m : Nat, List.foldl (fun x1 x2 => x1 ++ x2) #[] (List.replicate m its.toArray) = (List.replicate m its).flatten.toArray := fun m => by
      have := foldl_rep its m []
      rw [List.nil_append] at this
      exact this
    rw [f0]
    cases its with
    | nil => simp
    | cons a r' => rw [if_neg (by simp)]
  refine wpAny_binaryOp_repeat_ref (T := "list") (U := "int") (by decide) ⟨_, e, rfl⟩ (fun s' => typeIs_int s' k t) noFill_list_mul F.fills_int_mul F.slot_int_rmul repeat_list F.slot_int_index.lookup
    (call_meets F.slot_int_rmul (typeIs_int s k t) F.entry_int_rmul (F.args_int_rmul_2 _ _) (int___rmul___int_list k t l its.toArray n)
      ⟨e, rfl, ⟨_, e, rfl⟩, call_meets F.slot_list_mul ⟨_, e, rfl⟩ F.entry_list_mul (F.args_list_mul_2 _ _) (AutoListH.list___mul___list_int_3 l its.toArray n k t hfit hcap hlong) ⟨e, ?_⟩⟩)
  rw [hnew]
  exact ⟨.ref _, _, I.lnew (t' := s.toks) (r.rep k.toNat) (by rw [len_rep, Nat.mul_comm]; exact hz), rfl, q _ I.fresh⟩
end
section
variable {prog : Program} {w : World} {A : Around} {E : Value → Shared → Prop} {s : Shared}
end
section
variable {X : Cx}
end
end L2
namespace Att
open PySem PySem.W PySem.Calls PyProof.Rows
theorem ints_of_wellAll {P : Params} {h : Heap} : ∀ (ns : List Int) (vs : List Value), WellAll P h vs (ns.map WData.int) → IntsAre vs ns := by
  intro ns
  induction ns with
  | nil =>
    intro vs w
    rw [List.map_nil] at w
    cases w
    exact .nil
  | cons n ns ih =>
    intro vs w
    rw [List.map_cons] at w
    cases w with
    | cons a b =>
      cases a
      exact .cons _ _ (ih _ b)
theorem script_of {l : OpenLaw} {n : Nat} (hn : l.most = some n) {P : Params} {h : Heap} {args : List WData} {vals : List Value}
    (hpre : l.row.toRowW.claim.pre args = true) (hwl : WellAll P h vals args) :
    ∃ a vs ns, vals = [Value.ref a] ∧ args = [WData.list (ns.map WData.int)] ∧ h.get? a = some { cls := .type "list", data := .seq vs.toArray } ∧ IntsAre vs ns ∧ ns.length ≤ n := by
  have hsh : WShape.hasAll [] args [.list .int] = true := (pre_splitW hpre).1
  have hc : l.pre.holds [] { args := args } = true := (pre_splitW hpre).2
  obtain ⟨d, r, rfl, h1, h2⟩ := hasAllW_cons hsh
  obtain rfl := hasAllW_nil h2
  obtain ⟨xs, rfl, h3⟩ := hasW_list h1
  obtain ⟨ns, rfl⟩ := items_int h3
  have hlen : ns.length ≤ n := by
    unfold OpenLaw.pre at hc
    have h4 : (WTm.not (.lt (.lit (.int (n : Int))) (.len (.arg 0)))).holds [] { args := [.list (ns.map .int)] } = true := by
      have h4 := (holds_andW hc).1
      rw [hn] at h4
      exact h4
    have h5 := condW_of h4 (w_not (w_lt w_lit (w_len_list (w_arg rfl))))
    rw [List.length_map] at h5
    refine Nat.le_of_not_lt fun q => ?_
    have q' : (n : Int) < ((ns.length : Nat) : Int) := by omega
    first
      | (rw [decide_eq_true q'] at h5; exact absurd h5 (by decide))
      | (simp at h5; omega)
  cases hwl with
  | cons w1 w2 =>
    cases w2
    cases w1 with
    | list ho hall => exact ⟨_, _, ns, rfl, rfl, ho, ints_of_wellAll ns _ hall, hlen⟩
theorem post_true (l : OpenLaw) (args : List WData) : l.row.toRowW.claim.post args (.bool true) args = true :=
  postW_of (r := l.row.toRowW) (X := (true == true))
    (show WShape.has [] (.bool true) .bool = true by first | rfl | decide | simp [WShape.has, WShape.arms, WShape.armsAll])
    (show (WTm.eq .res (.lit (.bool true))).value [] { args := args, res := some (.bool true), after := args } = some (.bool (true == true)) from w_eq_bool (w_res rfl) w_lit) rfl
theorem attach_call {l : OpenLaw} {n : Nat} {q : Program} {loose : List Str} {XP : (Str → Option Value) → Heap → Prop} {YP : World → Heap → Prop} {d : DefRec}
    (hn : l.most = some n) (hdf : d.params.defaults = [])
    (call : ∀ (w : World) (s₀ s₁ : Shared) (mg mb : Str → Option Value) (fa : Addr) (o : Obj) (pm cd doc : Value) (a : Addr) (vs : List Value) (ns : List Int),
      Ground q loose [] XP w s₀ mg mb s₁.heap → YP w s₁.heap →
      s₁.heap.get? fa = some o → o.data = .func (docDef d.name d.params d.body d.scope pm cd doc) → s₁.heap.CodeRec cd d.name → mg d.name = some (.ref fa) →
      s₁.heap.get? a = some { cls := .type "list", data := .seq vs.toArray } → IntsAre vs ns → ns.length ≤ n → s₁.gens = #[] →
      codeAny (model l.prog w) callerA (.call (.ref fa) ⟨[.ref a], []⟩) (fun r s' => r = .ok (.ret (.bool true)) ∧ OldK s₁.heap s'.heap ∧ s'.os = s₁.os ∧ AllBare s'.gens) s₁) :
    WalkO q loose XP YP l.row.toRowW d [] (fun f vs => PySem.call f vs) := by
  intro w s₀ s₁ mg mb G Y fa o pm cd doc dV kV ho hd hcd hD hmg hg args vals as hpre hlay hrd hwl hlo
  obtain rfl : dV = .none := Dflts.none hD hdf
  obtain rfl : kV = .none := Dflts.noKw hD
  obtain ⟨a, vs, ns, rfl, rfl, hobj, hints, hlen⟩ := script_of hn hpre hwl
  refine enter_call (codeAny_mono (call w s₀ s₁ mg mb fa o pm cd doc a vs ns G Y ho (fd_plain hd) hcd hmg hobj hints hlen hg) fun r s' hq => ?_)
  obtain ⟨rfl, h2, h3, h4⟩ := hq
  exact ⟨.inl ⟨.bool true, .bool true, [], rfl, fun _ => rfl, .bool true, post_true l _, fun _ => ⟨List.Pairwise.nil, fun _ hm => (nomatch hm)⟩⟩, h2, h3, h4⟩
section
variable {prog : Program} {w : World} {A : Around} {E : Value → Shared → Prop} {s : Shared} {K : Frag}
end
end Att
namespace L2
open PySem PySem.Spec PyProof.Rows
theorem vals_ints : ∀ {vs : List Value} {ns : List Int}, IntsAre vs ns → Vals (ns.map V.int) vs
  | _, _, .nil => .nil
  | _, _, .cons n t h => .cons ⟨t, rfl⟩ (vals_ints h)
def Only (H : Hp) : Prop := ∀ b, H b = none ∨ ∃ o xs, H b = some (.frz o (.lst xs))
theorem law_call {P : Program} {w : World} {K : PySem.W.Frag} {mg mb : Str → Option Value} {CX : CXT} {k : Nat} {fa a : Addr} {fd : FuncData} {x : Str} {sp : Sp} {s₁ : Shared} {vs : List Value} {ns : List Int}
    (KX : K.In s₁.heap) (hns : s₁.heap.Ns mainGlobals mg) (hb : s₁.heap.Ns builtinsNs mb) (hbb : ∀ x : Str, x ≠ "__name__" → mb x = bootBuiltins x) (hlim : s₁.heap.NoLimit) (hg : s₁.gens = #[])
    (ha : s₁.heap.get? a = some { cls := .type "list", data := .seq vs.toArray }) (hi : IntsAre vs ns) (hl : ns.length ≤ sizeLine) (hr : Room k callerA)
    (F : ∀ base : Heap, K.In base → base.Ns mainGlobals mg → FnOk P w K mg base CX k fa fd [x] sp) (hbind : ∀ (s : Shared) (u : Value), BindsTo s fd ⟨[u], []⟩ [(x, u)])
    (hsp : ∀ H : Hp, Only H → SqL K H a (ns.map V.int) → sp [.ref a] H (fun v _ => v = .bl true) fun _ _ _ => False)
    (hCX : ∀ H e s', CX [] H s₁ (fun _ _ _ => False) e s' → False) :
    codeAny (model P w) callerA (.call (.ref fa) ⟨[.ref a], []⟩) (fun r s' => r = .ok (.ret (.bool true)) ∧ OldK s₁.heap s'.heap ∧ s'.os = s₁.os ∧ AllBare s'.gens) s₁ := by
  have rv := vals_ints hi
  have lenV := hi.length
  have core : ∀ H : Hp, Only H → SqL K H a (ns.map V.int) → HOk P w H s₁.heap → (∀ b, H b ≠ none → b = a) → (H a ≠ none → K.lookup a = none) →
      codeAny (model P w) callerA (.call (.ref fa) ⟨[.ref a], []⟩) (fun r s' => r = .ok (.ret (.bool true)) ∧ OldK s₁.heap s'.heap ∧ s'.os = s₁.os ∧ AllBare s'.gens) s₁ := by
    intro H hO hS hok hA hK
    have base_of : ∀ {b : Addr} {o : Obj}, s₁.heap.get? b = some o → H b = none → (hidT s₁.heap H).get? b = some o := fun e n => hidT_get e n
    have noA : ∀ {b : Addr} {o : Obj} {es : Array DictEntry} {ep : Nat}, s₁.heap.get? b = some o → o.data = .dict es ep → H b = none := fun {b o es ep} e d => by
      cases q : H b with
      | none => rfl
      | some u =>
        have e' : b = a := hA b (by rw [q]; simp)
        subst e'
        rw [ha] at e; cases e
        have d' : Data.seq vs.toArray _ = Data.dict es ep := d
        cases d'
    have nsK : ∀ {b : Addr} {m : Str → Option Value}, s₁.heap.Ns b m → (hidT s₁.heap H).Ns b m := fun {b m} ⟨o, es, ep, e, d, r⟩ => ⟨o, es, ep, base_of e (noA e d), d, r⟩
    have hKb : K.In (hidT s₁.heap H) := fun b o e => base_of (KX b o e) (by
      cases q : H b with
      | none => rfl
      | some u =>
        have e' : b = a := hA b (by rw [q]; simp)
        subst e'
        rw [hK (by rw [q]; simp)] at e; cases e)
    have hM : Mod K mg (hidT s₁.heap H) := ⟨hKb, nsK hns, ⟨mb, nsK hb, hbb⟩, let ⟨mc, h1, h2⟩ := hlim; ⟨mc, nsK h1, h2⟩⟩
    have e0 : Env0 P w K mg (hidT s₁.heap H) callerA [] s₁ H := ⟨rfl, hM, fun b o e => of_hidT e, Nat.le_of_eq (hidT_size _ _), trivial, fun b hb => absurd (show b ∈ ([] : List Addr) from hb) (by simp), hok, .of_eq hg⟩
    refine codeAny_mono ((F _ hKb (nsK hns)).run callerA [] s₁ H ⟨[.ref a], []⟩ [.ref a] [.ref a] _ _ hr e0 (hbind s₁ (.ref a)) (.cons rfl .nil) (hsp H hO hS)) fun r s' h => ?_
    cases r with
    | error e => exact (hCX H e s' h).elim
    | ok fl =>
      cases fl with
      | next => exact False.elim h
      | brk => exact False.elim h
      | cont => exact False.elim h
      | ret u =>
        obtain ⟨v, H', os, bare, un, hok', r', q⟩ := h
        have q' : v = .bl true := q
        subst q'
        obtain rfl : u = Value.bool true := r'
        refine ⟨rfl, OldK.of_keep fun b o e => ?_, os, bare⟩
        cases q : H b with
        | none => exact un.keep b o e q (by intro z; exact absurd (show b ∈ ([] : List Addr) from z) (by simp)) (by simp)
        | some u =>
          rcases hO b with z | ⟨ob, xs, z⟩
          · rw [q] at z; cases z
          · have z2 := un.frzs b ob _ z
            obtain ⟨e1, _⟩ := hok b _ z
            obtain ⟨e2, _⟩ := hok' b _ z2
            rw [e] at e1; cases e1
            exact e2
  cases hk : K.lookup a with
  | some o =>
    have e := KX a o hk
    rw [ha] at e
    cases e
    refine core (fun _ => none) (fun _ => .inl rfl) (.inr ⟨_, vs.toArray, _, hk, rfl, rfl, rfl, by rw [List.size_toArray, lenV]; exact hl, by simpa using rv⟩) (fun b u z => by have z' : (none : Option HO) = some u := z; cases z') (fun b z => absurd rfl z) fun z => absurd rfl z
  | none =>
    refine core (fun b => if b = a then some (.frz { cls := .type "list", data := .seq vs.toArray } (.lst (ns.map V.int))) else none) (fun b => ?_) (.inl (.inr ⟨{ cls := .type "list", data := .seq vs.toArray }, if_pos rfl⟩)) (fun b u z => ?_) (fun b z => ?_) fun _ => hk
    · by_cases hb : b = a
      · exact .inr ⟨_, _, if_pos hb⟩
      · exact .inl (if_neg hb)
    · by_cases hb : b = a
      · have z' := (if_pos hb).symm.trans z
        cases z'
        subst hb
        exact ⟨ha, by rw [List.length_map]; exact hl, vs, _, rv, ha⟩
      · have z' := (if_neg hb).symm.trans z
        cases z'
    · by_cases hb : b = a
      · exact hb
      · exact absurd (if_neg hb) z
end L2
namespace L2
open PySem PySem.Spec PyProof.Rows
end L2
namespace L2
open PySem PySem.Spec PyProof.Rows
def inClass (s : Stmt) (j : Nat) : Stmt := match s with
  | .ClassDef _ _ _ body _ _ _ _ _ _ _ => body.getD j (.Pass ⟨0, 0, 0, 0⟩)
  | _ => .Pass ⟨0, 0, 0, 0⟩
def defArgs (s : Stmt) : Arguments := match s with
  | .FunctionDef _ a _ _ _ _ _ _ _ _ => a
  | _ => { posonlyargs := [], args := [], vararg := none, kwonlyargs := [], kw_defaults := [], kwarg := none, defaults := [] }
def defBody (s : Stmt) : List Stmt := match s with
  | .FunctionDef _ _ b _ _ _ _ _ _ _ => b
  | _ => []
def defScope (s : Stmt) : Scope := match s with
  | .FunctionDef _ _ _ _ _ _ sc _ _ _ => sc
  | _ => { kind := .function, names := [], isGenerator := false, isCoroutine := false }
abbrev CX0 : CXT := fun _ _ _ _ _ _ => False
abbrev E0 : XK := fun _ _ _ => False
theorem pass0 {X : Cx} : Passes CX0 X E0 := fun _ _ _ _ _ _ _ h => h.elim
structure Fun (K : PySem.W.Frag) (x qual : Str) (st : Stmt) (f : Addr) (fd : FuncData) : Prop where
  ex : ∃ (oc : Value) (od : Option Addr) (kV doc pm : Value) (an : Option Addr) (cdv ct : Value) (osl : Array (Option Value)),
    fd = PySem.W.fnOf x qual (defArgs st) (defBody st) (defScope st) .none kV doc pm an cdv ct ∧ K.lookup f = some ⟨oc, od, .func fd, osl⟩ ∧ PySem.W.codeIn K cdv qual = true
  kp : PySem.W.keepIn K (.ref f) = true
section
variable {P : Program} {w : World} {K : PySem.W.Frag} {mg : Str → Option Value} {base : Heap}
theorem Fun.ok {x qual : Str} {st : Stmt} {f : Addr} {fd : FuncData} {N ps : List Str} {k : Nat} {sp : Sp} (F : Fun K x qual st f fd) (S : FnScope N ps (defScope st)) (len : ∀ vs H Q E, sp vs H Q E → vs.length = ps.length)
    (hbody : ∀ (cdv : Value) (A : Around) (outer : List Env) (s : Shared) (H : Hp) (vs : List V) (Q : VK) (E : XK), Room k (A.deeper (envOfC qual (defScope st) s.heap.objs.size f cdv)) → sp vs H Q E →
      ∃ t, PSs (cxOf CX0 P w K mg base N qual (defScope st) f cdv A outer s H E).nox (defBody st) t ∧ t { nx := fun _ H' => Q .non H', rt := Q } (start N vs) H) : FnOk P w K mg base CX0 (k + 1) f fd ps sp := by
  obtain ⟨oc, od, kV, doc, pm, an, cdv, ct, osl, rfl, lk, hcd⟩ := F.ex
  refine fn_of lk hcd S len fun A outer s H vs Q E hr hsp => ?_
  obtain ⟨t, h, q⟩ := hbody cdv A outer s H vs Q E hr hsp
  exact ⟨t, h.nox, q⟩
theorem Fun.binds {x qual : Str} {st : Stmt} {f : Addr} {fd : FuncData} {ps : List Str} (F : Fun K x qual st f fd)
    (h : ∀ (kV doc pm : Value) (an : Option Addr) (cdv ct : Value) (us : List Value), us.length = ps.length → bindArgs (PySem.W.fnOf x qual (defArgs st) (defBody st) (defScope st) .none kV doc pm an cdv ct) ⟨us, []⟩ = pure (ps.zip us)) : Binds K fd ps [] := by
  obtain ⟨oc, od, kV, doc, pm, an, cdv, ct, osl, rfl, lk, hcd⟩ := F.ex
  exact .all (h kV doc pm an cdv ct)
theorem fun_mk {x qual : Str} {st : Stmt} {f : Addr} {oc : Value} {od an : Option Addr} {osl : Array (Option Value)} {kV doc pm cdv ct : Value} (l : K.lookup f = some ⟨oc, od, .func (PySem.W.fnOf x qual (defArgs st) (defBody st) (defScope st) .none kV doc pm an cdv ct), osl⟩)
    (c : PySem.W.codeIn K cdv qual = true) (k : PySem.W.keepIn K (.ref f) = true) : Fun K x qual st f (PySem.W.fnOf x qual (defArgs st) (defBody st) (defScope st) .none kV doc pm an cdv ct) := ⟨⟨oc, od, kV, doc, pm, an, cdv, ct, osl, rfl, l, c⟩, k⟩
end
theorem hu_of {A : Around} {k : Nat} (hr : Room k A) : A.units + 1 < cLine := Nat.lt_of_le_of_lt (Nat.add_le_add_left (by decide : 1 ≤ 64) _) hr.units
theorem small1000 {n : Nat} (h : n ≤ 1000) : n < sizeLine := Nat.lt_of_le_of_lt h (by decide)
section
variable {X : Cx}
theorem pv (i : Nat) {x : Str} {pos : Pos} (hN : X.N[i]? = some x := by rfl) (hv : Vis X.env.scope x := by first | exact Or.inl rfl | exact Or.inr (Or.inl rfl) | exact Or.inr (Or.inr rfl)) (hd : (x == ("__debug__" : Str)) = false := by decide)
    (hcd : (x == ("__classdict__" : Str)) = false := by decide) : PE X (.Name x pos) (tVar i) := pe_var hN hv hd hcd
end
theorem iteF {A B : Prop} (h : B) : if false = true then A else B := by
  rw [if_neg Bool.false_ne_true]
  exact h
theorem iteT {A B : Prop} (h : A) : if true = true then A else B := by
  rw [if_pos rfl]
  exact h
def Same (H H' : Hp) : Prop := ∀ b o, H b = some o → H' b = some o
theorem Same.refl (H : Hp) : Same H H := fun _ _ h => h
theorem Same.trans {H H1 H2 : Hp} (a : Same H H1) (b : Same H1 H2) : Same H H2 := fun c o h => b c o (a c o h)
theorem Same.free {H H' : Hp} (e : Same H H') {l : Addr} (h : H' l = Option.none) : H l = Option.none := by
  cases q : H l with
  | none => rfl
  | some o =>
    rw [e l o q] at h
    cases h
theorem Same.seq {K : PySem.W.Frag} {H H' : Hp} {a : Addr} {xs : List V} (e : Same H H') (h : SqL K H a xs) : SqL K H' a xs := by
  rcases h with (h | ⟨o, h⟩) | h
  · exact .inl (.inl (e _ _ h))
  · exact .inl (.inr ⟨o, e _ _ h⟩)
  · exact .inr h
end L2
namespace L2
open PySem PySem.Spec PyProof.Rows
section
variable {X : Cx}
end
section
variable {κ : Type} [DecidableEq κ]
theorem nd_snoc : ∀ {l : List κ} {k : κ}, l.Nodup → ¬ k ∈ l → (l ++ [k]).Nodup
  | [], k, _, _ => by simp
  | a :: r, k, h, hk => by
    obtain ⟨h1, h2⟩ := List.nodup_cons.mp h
    show (a :: (r ++ [k])).Nodup
    refine List.nodup_cons.mpr ⟨fun m => ?_, nd_snoc h2 fun m => hk (List.mem_cons.mpr (Or.inr m))⟩
    rcases List.mem_append.mp m with q | q
    · exact h1 q
    · exact hk (List.mem_cons.mpr (Or.inl (List.mem_singleton.mp q).symm))
end
end L2
namespace L2
open PySem PySem.Spec PyProof.Rows
theorem adr_ne {a b n : Nat} (h1 : a < n) (h2 : n ≤ b) : a ≠ b := Nat.ne_of_lt (Nat.lt_of_lt_of_le h1 h2)
theorem adr_en {a b n : Nat} (h1 : a < n) (h2 : n ≤ b) : b ≠ a := Ne.symm (adr_ne h1 h2)
section
variable {X : Cx} {pins : List (Addr × Obj)} {σ : St} {H : Hp} {s : Shared}
theorem Inv.track {D : Addr} {o : HO} (I : Inv X pins σ H s) (hn : H D = none) (h0 : X.s₀.heap.objs.size ≤ D) (hL : D ≠ X.env.locals) (hc : ∀ x c, X.env.cells.lookup x = some c → c ≠ D)
    (hp : ∀ p ∈ X.pn ++ pins, p.1 ≠ D) (new : ObjOk X.prog X.w (upd H D o) s.heap D o) : Inv X pins σ (upd H D o) s := by
  have nD : ∀ b u, H b = some u → b ≠ D := fun b u e z => by rw [z, hn] at e; cases e
  refine I.step (h' := s.heap) (g' := s.gens) (d' := s.drawn) (t' := s.toks) (ch := [D]) (fun b hb => ?_) (fun _ _ _ _ _ e _ => e) (fun _ o _ _ _ e _ => ⟨o.slots, e⟩)
    (fun b _ hb _ e => ?_) (fun _ o _ e => ⟨o, e⟩) (fun b xs e => ?_) (fun b q u e => ?_) (fun b ps e => ⟨#[], ?_⟩) (fun _ h => h) (fun b u e => ?_) I.bare
  · obtain rfl : b = D := by simpa using hb
    exact ⟨.inr h0, hL, hc, hp⟩
  · rw [upd_ne (by simpa using hb)]; exact e
  · rw [upd_ne (nD b _ e)]; exact e
  · rw [upd_ne (nD b _ e)]; exact e
  · rw [upd_ne (nD b _ e), e]; simp
  · by_cases c : b = D
    · subst c
      rw [upd_same] at e
      cases e
      exact new
    · rw [upd_ne c] at e
      exact (I.hok b u e).stay (fun _ _ _ q => q) (fun z q => by rw [upd_ne (nD z _ q)]; exact q) fun z xs q => by rw [upd_ne (nD z _ q)]; exact q
theorem Inv.untrack {D : Addr} {xs : List V} (I : Inv X pins σ (upd H D (.lst xs)) s) (hn : H D = none) : Inv X pins σ H s := by
  have nD : ∀ b u, H b = some u → b ≠ D := fun b u e z => by rw [z, hn] at e; cases e
  have up : ∀ b u, H b = some u → upd H D (.lst xs) b = some u := fun b u e => by rw [upd_ne (nD b u e)]; exact e
  have dn : ∀ b u, upd H D (.lst xs) b = some u → (∀ ys, u ≠ .lst ys) → H b = some u := fun b u e k => by
    by_cases c : b = D
    · subst c
      rw [upd_same] at e
      exact absurd (Option.some.inj e).symm (k xs)
    · rw [upd_ne c] at e; exact e
  refine I.step (h' := s.heap) (g' := s.gens) (d' := s.drawn) (t' := s.toks) (ch := []) (fun _ z => nomatch z) (fun _ _ _ _ _ e _ => e) (fun _ o _ _ _ e _ => ⟨o.slots, e⟩)
    (fun b _ _ _ e => ?_) (fun _ o _ e => ⟨o, e⟩) (fun b ys e => dn b _ e (fun _ z => nomatch z)) (fun b q u e => dn b _ e (fun _ z => nomatch z)) (fun b ps e => ⟨#[], by rw [dn b _ e (fun _ z => nomatch z)]; simp⟩) (fun _ h => h) (fun b u e => ?_) I.bare
  · by_cases c : b = D
    · subst c; exact hn
    · rw [upd_ne c] at e; exact e
  · exact (I.hok b u (up b u e)).stay (fun _ _ _ q => q) (fun z q => dn z _ q (fun _ y => nomatch y)) fun z ys q => dn z _ q (fun _ y => nomatch y)
end
def PTs (X : Cx) (ifs : List Expr) (t : TT) : Prop :=
  ∀ (pins : List (Addr × Obj)) (s : Shared) (σ : St) (H : Hp) (Q : Bool → Hp → Prop), Inv X pins σ H s → t σ H Q →
    wpAny (model X.prog X.w) X.A (forIn ifs true fun c r => if r = true then do let ok ← isTrue c X.env (eval c X.env); pure (ForInStep.yield ok) else pure (ForInStep.yield r)) (TP X pins σ Q) X.xe s
def tTrue : TT := fun _ H Q => Q true H
theorem pts_nil {X : Cx} : PTs X [] tTrue := fun _ _ σ H _ I h => wpAny_tests_nil ⟨H, I, h⟩
theorem pts_one {X : Cx} {c : Expr} {t : TT} (h : PT X c t) : PTs X [c] t := fun pins s σ H Q I q => wpAny_tests_one (h pins s σ H Q I q)
abbrev NoE : Value → Shared → Prop := fun _ _ => False
theorem comp_loop {prog : Program} {w : World} {A : Around} {R : Result → Shared → Prop} {s : Shared} {elt target iter : Expr} {ifs : List Expr} {scope : Scope} {pos : Pos} {it acc : Value} {env : Env} (J : Nat → Shared → Prop)
    (turn : ∀ n s, J n s → wpAny (model prog w) A (pyNext it) (fun r s1 => match r with
      | none => R (.ok .next) s1
      | some v => wpAny (model prog w) A (letOwnedTupleGo target it v) (fun _ s2 => wpAny (model prog w) A (assign target env v) (fun _ s3 =>
          wpAny (model prog w) A (forIn ifs true fun c r => if r = true then do let ok ← isTrue c env (eval c env); pure (ForInStep.yield ok) else pure (ForInStep.yield r)) (fun ok s4 =>
            if ok = true then wpAny (model prog w) A (eval elt env) (fun x s5 => wpAny (model prog w) A (call (.builtin "list.append") [acc, x]) (fun _ s6 => ∃ m, m < n ∧ J m s6) NoE s5) NoE s4
            else ∃ m, m < n ∧ J m s4) NoE s3) NoE s2) NoE s1) NoE s)
    (n : Nat) (h : J n s) : codeAny (model prog w) A (.compLoop (.ListComp elt [⟨target, iter, ifs, 0⟩] scope pos) 0 it acc env) R s := by
  refine codeAny_loop rfl J (fun n s hJ => ?_) n h
  show wpAny _ A ((compTurn (.ListComp elt [⟨target, iter, ifs, 0⟩] scope pos) 0 it acc env).onRaise (fun x => do noteFrame x env; theTreesLotGoes x)) _ _ s
  refine wpAny_noted ?_
  rw [compTurn_list]
  have out : ∀ (e : Value) (s' : Shared), NoE e s' → notedBy (model prog w) A env (fun x s'' => R (.error x) s'') e s' := fun _ _ f => f.elim
  refine wpAny_bind (wpAny_standAt (wpAny_bind (wpAny_mono (turn n s hJ) (fun r s1 h1 => ?_) out)))
  cases r with
  | none => exact wpAny_pure h1
  | some v =>
    refine wpAny_bind (wpAny_mono h1 (fun _ s2 h2 => ?_) out)
    refine wpAny_bind (wpAny_mono h2 (fun _ s3 h3 => ?_) out)
    refine wpAny_bind (wpAny_mono h3 (fun ok s4 h4 => ?_) out)
    cases ok with
    | false => exact wpAny_pure ⟨rfl, h4⟩
    | true =>
      refine wpAny_bind (wpAny_bind (wpAny_mono h4 (fun x s5 h5 => ?_) out))
      exact wpAny_bind (wpAny_mono h5 (fun _ s6 h6 => wpAny_pure (wpAny_pure ⟨rfl, h6⟩)) out)
def closOf (env : Env) : List (Str × NameKind) → List (Str × Addr) → List (Str × Addr)
  | [], cs => cs
  | (n, k) :: r, cs => closOf env r (if k = .free then (n, (env.cells.lookup n).getD 0) :: cs else cs)
theorem closOf_eq {env : Env} : ∀ (names : List (Str × NameKind)) (cs : List (Str × Addr)), (∀ y ∈ names, y.2 = .free → ∃ c, env.cells.lookup y.1 = some c) →
    (forIn names cs fun (x : Str × NameKind) (r : List (Str × Addr)) => (match x with | (name, kind) => if (kind == NameKind.free) = true then do let a ← cellOf env name; pure (ForInStep.yield ((name, a) :: r)) else pure (ForInStep.yield r) : Sem (ForInStep (List (Str × Addr))))) = pure (closOf env names cs)
  | [], cs, _ => rfl
  | (n, k) :: r, cs, h => by
    rw [List.forIn_cons]
    have hr := closOf_eq (env := env) r
    by_cases c : k = .free
    · subst c
      obtain ⟨a, ha⟩ := h (n, .free) List.mem_cons_self rfl
      have e : cellOf env n = pure a := by unfold cellOf; rw [ha]
      simp only [beq_self_eq_true, if_true, e, pure_bind]
      rw [hr _ fun y hy => h y (List.mem_cons_of_mem _ hy)]
      conv => rhs; unfold closOf
      rw [if_pos rfl, ha]
      rfl
    · have e : (k == NameKind.free) = false := by simpa using c
      simp only [e, Bool.false_eq_true, if_false, pure_bind]
      rw [hr _ fun y hy => h y (List.mem_cons_of_mem _ hy)]
      conv => rhs; unfold closOf
      rw [if_neg c]
theorem clos_eq {scope : Scope} {env : Env} (h : ∀ y ∈ scope.names, y.2 = .free → ∃ c, env.cells.lookup y.1 = some c) : closureFor scope env = pure (closOf env scope.names []) := by
  have := closOf_eq (env := env) scope.names [] h
  unfold closureFor
  first
    | exact this
    | (simp only [bind_pure]; exact this)
    | (rw [show (forIn scope.names ([] : List (Str × Addr)) _ : Sem (List (Str × Addr))) = _ from this]; rfl)
theorem closOf_some {env : Env} (x : Str) : ∀ (names : List (Str × NameKind)) (cs : List (Str × Addr)), (∀ y ∈ names, y.2 = .free → ∃ c, env.cells.lookup y.1 = some c) →
    (∀ c, cs.lookup x = some c → env.cells.lookup x = some c) → ∀ c, (closOf env names cs).lookup x = some c → env.cells.lookup x = some c
  | [], _, _, h, c, e => h c e
  | (n, k) :: r, cs, hh, h, c, e => by
    unfold closOf at e
    refine closOf_some x r _ (fun y hy => hh y (List.mem_cons_of_mem _ hy)) (fun c' e' => ?_) c e
    by_cases hk : k = .free
    · rw [if_pos hk] at e'
      obtain ⟨a, ha⟩ := hh (n, k) List.mem_cons_self hk
      rw [ha] at e'
      rw [List.lookup_cons] at e'
      cases hx : x == n with
      | true =>
        rw [hx] at e'
        have : x = n := by simpa using hx
        subst this
        cases e'
        exact ha
      | false =>
        rw [hx] at e'
        exact h c' e'
    · rw [if_neg hk] at e'
      exact h c' e'
theorem closOf_has {env : Env} (x : Str) : ∀ (names : List (Str × NameKind)) (cs : List (Str × Addr)), ((x, NameKind.free) ∈ names ∨ ∃ c, cs.lookup x = some c) → ∃ c, (closOf env names cs).lookup x = some c
  | [], _, h => h.elim (fun z => nomatch z) id
  | (n, k) :: r, cs, h => by
    unfold closOf
    refine closOf_has x r _ ?_
    by_cases hk : k = .free
    · rw [if_pos hk]
      rcases h with h | ⟨c, h⟩
      · rcases List.mem_cons.mp h with z | z
        · cases z
          exact .inr ⟨(env.cells.lookup x).getD 0, by rw [List.lookup_cons]; simp⟩
        · exact .inl z
      · refine .inr ?_
        rw [List.lookup_cons]
        cases hx : x == n with
        | true => exact ⟨_, rfl⟩
        | false => exact ⟨c, h⟩
    · rw [if_neg hk]
      rcases h with h | h
      · rcases List.mem_cons.mp h with z | z
        · cases z
          exact absurd rfl hk
        · exact .inl z
      · exact .inr h
structure ScOk (sc : Scope) (N : List Str) (scope : Scope) (M : List Str) (ix : List (Option Nat)) : Prop where
  kind : scope.kind = .function
  nd : M.Nodup
  nocell : ∀ y ∈ scope.names, y.2 ≠ .cell
  loc : ∀ y ∈ scope.names, y.2 = .local → scope.names.lookup y.1 = some .local
  fre : ∀ y ∈ scope.names, y.2 = .free → sc.names.lookup y.1 = some .cell ∨ sc.names.lookup y.1 = some .free
  len : ix.length = M.length
  at_ : ∀ p ∈ M.zip ix, ∀ i ∈ p.2, N[i]? = some p.1 ∧ (sc.names.lookup p.1 = some .cell ∨ sc.names.lookup p.1 = some .free) ∧ scope.names.lookup p.1 = some .free
def cxComp (X : Cx) (scope : Scope) (C : Addr) (M : List Str) (s : Shared) (H : Hp) (fp : List Addr) : Cx :=
  { X with N := M, s₀ := s, H₀ := H, env := compEnvC scope (closOf X.env scope.names []) C X.env, outer := X.stack, stack := X.stack, ex := fp, fn := fun _ => false, pn := [], xe := NoE }
def takeAt (σ : St) : Option Nat → Option V
  | none => none
  | some i => (σ[i]?).getD none
def compSt (σ : St) (ix : List (Option Nat)) : St := ix.map (takeAt σ)
theorem relabel_kind {scope : Scope} {env : Env} {x : Str} {k : NameKind} : ∀ {names : List (Str × NameKind)},
    (names.map fun (n, k) => if (k == NameKind.free && env.scope.kind == .function && env.kindOf n == some .cell) then (n, NameKind.cell) else (n, k)).lookup x = some k → (k = .cell ∨ k = .free) →
    (∀ y ∈ names, y.2 ≠ .cell) → (x, NameKind.free) ∈ names
  | [], h, _, _ => by simp at h
  | (n, k') :: r, h, hk, hc => by
    rw [List.map_cons, List.lookup_cons] at h
    by_cases c : (k' == NameKind.free && env.scope.kind == .function && env.kindOf n == some .cell) = true
    · dsimp only at h
      rw [if_pos c] at h
      dsimp only at h
      have hf : k' = .free := by
        rw [Bool.and_eq_true, Bool.and_eq_true] at c
        simpa using c.1.1
      subst hf
      cases hx : x == n with
      | true =>
        have : x = n := by simpa using hx
        subst this
        exact List.mem_cons_self
      | false =>
        rw [hx] at h
        exact List.mem_cons_of_mem _ (relabel_kind (scope := scope) h hk fun y hy => hc y (List.mem_cons_of_mem _ hy))
    · dsimp only at h
      rw [if_neg c] at h
      dsimp only at h
      cases hx : x == n with
      | true =>
        rw [hx] at h
        have : x = n := by simpa using hx
        subst this
        cases h
        rcases hk with z | z
        · exact absurd z (hc (x, k) List.mem_cons_self)
        · rw [z]; exact List.mem_cons_self
      | false =>
        rw [hx] at h
        exact List.mem_cons_of_mem _ (relabel_kind (scope := scope) h hk fun y hy => hc y (List.mem_cons_of_mem _ hy))
theorem relabel_look {env : Env} {x : Str} : ∀ {names : List (Str × NameKind)}, names.lookup x = some NameKind.free →
    (names.map fun (n, k) => if (k == NameKind.free && env.scope.kind == .function && env.kindOf n == some .cell) then (n, NameKind.cell) else (n, k)).lookup x = some .cell ∨
    (names.map fun (n, k) => if (k == NameKind.free && env.scope.kind == .function && env.kindOf n == some .cell) then (n, NameKind.cell) else (n, k)).lookup x = some .free
  | [], h => by simp at h
  | (n, k') :: r, h => by
    rw [List.map_cons, List.lookup_cons]
    rw [List.lookup_cons] at h
    dsimp only at h ⊢
    by_cases c : (k' == NameKind.free && env.scope.kind == .function && env.kindOf n == some .cell) = true
    · rw [if_pos c]
      dsimp only
      cases hx : x == n with
      | true => exact .inl rfl
      | false =>
        rw [hx] at h
        exact relabel_look h
    · rw [if_neg c]
      dsimp only
      cases hx : x == n with
      | true =>
        rw [hx] at h
        exact .inr h
      | false =>
        rw [hx] at h
        exact relabel_look h
section
variable {X : Cx} {pins : List (Addr × Obj)} {σ : St} {H : Hp} {s : Shared}
theorem cells_of {sc : Scope} {scope : Scope} {M : List Str} {ix : List (Option Nat)} (ok : ScOk sc X.N scope M ix) (hsc : X.env.scope = sc) (I : Inv X pins σ H s) : ∀ y ∈ scope.names, y.2 = .free → ∃ c, X.env.cells.lookup y.1 = some c := fun y hy hf => by
  refine I.ok.has y.1 ?_
  have := ok.fre y hy hf
  rw [← hsc] at this
  exact this
theorem inv_comp {sc : Scope} {scope : Scope} {M : List Str} {ix : List (Option Nat)} {C : Addr} {fp : List Addr} {h' : Heap} {t' : Nat} (ok : ScOk sc X.N scope M ix) (hsc : X.env.scope = sc) (I : Inv X pins σ H s) (hf : ∀ b ∈ fp, FpOk X pins H b)
    (hC : s.heap.objs.size ≤ C) (hN : ∃ m, h'.Ns C m) (hk : ∀ b o, s.heap.get? b = some o → h'.get? b = some o) (hlt : ∀ b ∈ fp, b < s.heap.objs.size) :
    Inv (cxComp X scope C M s H fp) [] (compSt σ ix) H { s with heap := h', toks := t' } := by
  have cs := cells_of ok hsc I
  have cl : ∀ x c, (closOf X.env scope.names []).lookup x = some c → X.env.cells.lookup x = some c := fun x c e => closOf_some x scope.names [] cs (fun _ z => by simp at z) c e
  have stk : ∀ b, b ∈ frs X.stack → b ∈ X.env.locals :: X.fs := I.stkSub
  have nC : ∀ b o, s.heap.get? b = some o → b ≠ C := fun b o e => adr_ne (Heap.lt_size e) hC
  obtain ⟨m, hm⟩ := hN
  refine ⟨⟨I.ok.mod, ok.kind, I.ok.glob, I.ok.blt, hC, fun x y c h1 h2 => I.ok.inj x y c (cl x c h1) (cl y c h2), fun x hx => ?_, fun _ _ z => (nomatch z), I.ok.hd, I.ok.frames, .inl rfl, fun b hb => ⟨?_, fun x c e => (hf b hb).2.2.2.2.1 x c (cl x c e)⟩,
    fun b o e => I.bs b o e, Nat.le_trans I.ok.bsz I.sz, fun b o e hb => ?_, fun b hb z => ?_, I.stack, I.stkFree⟩, rfl, I.bare, Un.kept hk, ⟨m, hm, fun j x v e1 e2 e3 => ?_⟩, fun x c e => ?_, I.hok.fresh hC, fun x c e => I.freeC x c (cl x c e), fun p hp => ?_, I.hok.kept hk, ?_⟩
  · have hx : (relabel scope X.env).names.lookup x = some .cell ∨ (relabel scope X.env).names.lookup x = some .free := hx
    have mem : (x, NameKind.free) ∈ scope.names := by
      rcases hx with z | z
      · exact relabel_kind (scope := scope) z (.inl rfl) ok.nocell
      · exact relabel_kind (scope := scope) z (.inr rfl) ok.nocell
    exact closOf_has x scope.names [] (.inl mem)
  · exact adr_ne (hlt b hb) hC
  · have hb : b ∈ fp := hb
    rcases (hf b hb).2.2.2.1 with z | z
    · exact I.ok.noex b o e z
    · exact adr_ne (Nat.lt_of_lt_of_le (Heap.lt_size e) I.ok.bsz) z rfl
  · have hb : b ∈ fp := hb
    rcases List.mem_cons.mp (stk b z) with q | q
    · exact (hf b hb).2.1 q
    · exact (hf b hb).2.2.1 q
  · have e1 : M[j]? = some x := e1
    have e2 : (ix.map (takeAt σ))[j]? = some (some v) := e2
    rw [List.getElem?_map] at e2
    cases ei : ix[j]? with
    | none => rw [ei] at e2; cases e2
    | some o =>
      rw [ei] at e2
      have e2 : takeAt σ o = some v := Option.some.inj e2
      cases o with
      | none => cases e2
      | some i =>
        have hz : (x, some i) ∈ M.zip ix := by
          refine List.mem_iff_getElem?.mpr ⟨j, ?_⟩
          rw [List.getElem?_zip_eq_some]
          exact ⟨e1, ei⟩
        obtain ⟨h1, h2, h3⟩ := ok.at_ _ hz i rfl
        have hσ : σ[i]? = some (some v) := by
          have e2 : (σ[i]?).getD none = some v := e2
          cases q : σ[i]? with
          | none => rw [q] at e2; cases e2
          | some r => rw [q] at e2; rw [show r = some v from e2]
        obtain ⟨m0, _, hl⟩ := I.loc
        have hv : Vis X.env.scope x := by
          rw [hsc]
          exact .inr h2
        obtain ⟨u, r, lk⟩ := hl i x v h1 hσ hv
        refine ⟨u, r, .inr ⟨relabel_look h3, ?_⟩⟩
        rcases lk with ⟨k, _⟩ | ⟨k, c, ec, cell⟩
        · have k : X.env.scope.names.lookup x = some .local := k
          rw [hsc] at k
          rcases h2 with z | z <;> (rw [k] at z; cases z)
        · obtain ⟨c', ec'⟩ := closOf_has (env := X.env) x scope.names [] (.inl (PySem.mem_of_lookup h3))
          have := cl x c' ec'
          rw [ec] at this
          cases this
          obtain ⟨oc, q1, q2⟩ := cell
          exact ⟨c, ec', oc, hk c oc q1, q2⟩
  · obtain ⟨v, oc, q1, q2⟩ := I.cell x c (cl x c e)
    exact ⟨v, oc, hk c oc q1, q2⟩
  · exact absurd (show p ∈ ([] : List (Addr × Obj)) from hp) (by simp)
  · show (ix.map (takeAt σ)).length = M.length
    rw [List.length_map, ok.len]
end
def tCompW (g : TG) (tc : TT) (te : TE) (J : It) (σ0 : St) (H1 : Hp) (Q : VK) : Prop :=
  ∃ W : Nat → Nat → List V → St → Hp → Prop, (∃ m, W 0 m [] σ0 H1) ∧ ∀ i m acc σ H, W i m acc σ H →
    (J.stop i H ∧ ∀ p, H p = none → Q (.ref p) (upd H p (.lst acc))) ∨
    (J.go i H ∧ acc.length < sizeLine ∧ ∀ x H', J.yld i H x H' → g x σ H' fun σ2 H2 => tc σ2 H2 fun b H3 =>
      if b = true then te σ2 H3 fun y H4 => ∃ m', m' < m ∧ W (i + 1) m' (acc ++ [y]) σ2 H4 else ∃ m', m' < m ∧ W (i + 1) m' acc σ2 H3)
def tComp (ix : List (Option Nat)) (wi : TI) (g : TG) (tc : TT) (te : TE) : TE := fun σ H Q => wi σ H fun J H1 => tCompW g tc te J (compSt σ ix) H1 Q
abbrev lob (its : List Value) (k : Nat) : Obj := { cls := .type "list", data := .seq its.toArray k }
section
variable {X : Cx} {pins : List (Addr × Obj)} {σ : St} {H : Hp} {s : Shared}
theorem comp_block {sc : Scope} {scope : Scope} {M : List Str} {ix : List (Option Nat)} {elt tg iter : Expr} {ifs : List Expr} {pos : Pos} {it : Addr} {fp : List Addr} {tn : Nat → Heap → Prop} {J : It} {g : TG} {tc : TT} {te : TE} {Q : VK}
    {E : Value → Shared → Prop} {RR : Value → Addr → Result → Shared → Prop} (ok : ScOk sc X.N scope M ix) (hsc : X.env.scope = sc) (hcm : X.calm = true) (I : Inv X pins σ H s) (T : Turn X.prog X.w X.K tg J fp it tn) (st : tn 0 s.heap)
    (f2 : ∀ b ∈ fp, FpOk X pins H b) (hb : ∀ C, PG (cxComp X scope C M s H fp) tg g ∧ PTs (cxComp X scope C M s H fp) ifs tc ∧ PE (cxComp X scope C M s H fp) elt te) (w : tCompW g tc te J (compSt σ ix) H Q)
    (fin : ∀ (D C : Addr) (s' : Shared) (H' : Hp) (acc : List V), (∃ m, s'.heap.Ns C m) → Inv X pins σ (upd H' D (.lst acc)) s' → upd H' D (.lst acc) C = none → C ≠ X.env.locals → (∀ x c, X.env.cells.lookup x = some c → c ≠ C) →
      (∀ (σ1 : St) (H1 : Hp) (s1 : Shared) (h1 : Heap), Inv X pins σ1 H1 s1 → H1 C = none → Heap.SameBut C s1.heap h1 → Inv X pins σ1 H1 { s1 with heap := h1 }) → Q (.ref D) (upd H' D (.lst acc)) → RR (.ref D) C (.ok .next) s') :
    wpAny (model X.prog X.w) X.A (newList []) (fun acc s3 => wpAny (model X.prog X.w) X.A (newFunctionEnv scope X.env.globals (closOf X.env scope.names []) [] X.env.qual none .none (some X.env)) (fun cenv s4 =>
      codeAny (model X.prog X.w) X.A (.compStart (.ListComp elt [⟨tg, iter, ifs, 0⟩] scope pos) 0 (.ref it) acc { cenv with scope := relabel scope X.env }) (RR acc cenv.locals) s4) E s3) E s := by
  obtain ⟨W, ⟨m0, w0⟩, turn⟩ := w
  refine wpAny_newObj_type (wpAny_newFunctionEnv ok.nocell (by intro y hy; simp at hy) (fun h1 hns hsb => ?_) ok.kind)
  dsimp only at hns hsb ⊢
  generalize hH2 : s.heap.push { cls := .type "list", dict := none, data := .seq ([] : List Value).toArray } = h2 at hns hsb ⊢
  have zC : h2.objs.size = s.heap.objs.size + 1 := by rw [← hH2, Heap.size_push]
  have hCD : h2.objs.size ≠ s.heap.objs.size := by rw [zC]; exact Nat.succ_ne_self _
  have hCge : s.heap.objs.size ≤ h2.objs.size := by rw [zC]; exact Nat.le_succ _
  have old : ∀ b o, s.heap.get? b = some o → h1.get? b = some o := fun b o e => by
    exact hsb.extBut b o (adr_ne (Heap.lt_size e) hCge) (Heap.get?_push_of_some _ (hH2 ▸ Heap.get?_push_of_some _ e))
  have hD1 : h1.get? s.heap.objs.size = some (lob [] 0) := hsb.extBut _ _ (Ne.symm hCD) (Heap.get?_push_of_some _ (hH2 ▸ Heap.get?_push_size _ rfl))
  have flt : ∀ b ∈ fp, b < s.heap.objs.size := fun b hb => by
    obtain ⟨o, e, _⟩ := T.obj _ _ st b hb
    exact Heap.lt_size e
  have cs := cells_of ok hsc I
  have cl : ∀ x c, (closOf X.env scope.names []).lookup x = some c → X.env.cells.lookup x = some c := fun x c e => closOf_some x scope.names [] cs (fun _ z => by simp at z) c e
  have clt : ∀ x c, X.env.cells.lookup x = some c → c < s.heap.objs.size := fun x c e => by
    obtain ⟨v, o, q, _⟩ := I.cell x c e
    exact Heap.lt_size q
  have nfs : ∀ a, s.heap.objs.size ≤ a → a ∉ frs X.stack := fun a ha z => by
    rcases List.mem_cons.mp (I.stkSub a z) with q | q
    · exact adr_en I.lt ha q
    · exact I.nofs ha q
  have I1 : Inv (cxComp X scope h2.objs.size M s H fp) [] (compSt σ ix) H { s with heap := h1, toks := s.toks + ([] : List (Str × Value)).length } := inv_comp ok hsc I f2 hCge ⟨_, hns⟩ old flt
  have st1 : tn 0 h1 := T.keep _ _ _ st fun b _ o e => old b o e
  have fpk : ∀ {H' : Hp} {ps : List (Addr × Obj)}, (∀ b ∈ fp, H' b = none) → (∀ p ∈ ps, p.1 = s.heap.objs.size) → ∀ b ∈ fp, FpOk (cxComp X scope h2.objs.size M s H fp) ps H' b := fun {H' ps} hn hp b hb =>
    ⟨hn b hb, adr_ne (flt b hb) hCge, fun z => by
      rcases List.mem_cons.mp (I.stkSub b z) with q | q
      · exact (f2 b hb).2.1 q
      · exact (f2 b hb).2.2.1 q, .inl hb, fun x c e => (f2 b hb).2.2.2.2.1 x c (cl x c e), fun p hp' => by
      have q := hp p (by simpa [cxComp] using hp')
      rw [q]
      exact adr_en (flt b hb) (Nat.le_refl _)⟩
  have pinD : ∀ {σ' : St} {H' : Hp} {s' : Shared} {its : List Value} {k : Nat}, Inv (cxComp X scope h2.objs.size M s H fp) [] σ' H' s' → s'.heap.get? s.heap.objs.size = some (lob its k) → H' s.heap.objs.size = none →
      Inv (cxComp X scope h2.objs.size M s H fp) [(s.heap.objs.size, lob its k)] σ' H' s' := fun {σ' H' s' its k} I' e n => I'.pins_of fun p hp => by
    obtain rfl : p = (s.heap.objs.size, lob its k) := by simpa using hp
    exact ⟨e, n, Ne.symm hCD, nfs _ (Nat.le_refl _), fun v z => nomatch z⟩
  have loop : ∀ s5 : Shared, s5 = { s with heap := h1, toks := s.toks + ([] : List (Str × Value)).length } →
      codeAny (model X.prog X.w) X.A (.compLoop (.ListComp elt [⟨tg, iter, ifs, 0⟩] scope pos) 0 (.ref it) (.ref s.heap.objs.size) (compEnvC scope (closOf X.env scope.names []) h2.objs.size X.env)) (RR (.ref s.heap.objs.size) h2.objs.size) s5 := by
    rintro s5 rfl
    refine comp_loop (fun n s' => ∃ i acc σ' H' its k, Inv (cxComp X scope h2.objs.size M s H fp) [] σ' H' s' ∧ tn i s'.heap ∧ (∀ b ∈ fp, H' b = none) ∧ W i n acc σ' H' ∧ s'.heap.get? s.heap.objs.size = some (lob its k) ∧ Vals acc its ∧
      H' s.heap.objs.size = none ∧ acc.length ≤ sizeLine) ?_ m0 ⟨0, [], compSt σ ix, H, [], 0, I1, st1, fun b hb => (f2 b hb).1, w0, hD1, .nil, I.fresh, Nat.zero_le _⟩
    rintro n s3 ⟨i, acc, σ3, H3, its, k, I3, st3, fr3, w3, hD3, rv3, nD3, z3⟩
    have I3' := pinD I3 hD3 nD3
    have fk3 := fpk (ps := [(s.heap.objs.size, lob its k)]) fr3 (fun p hp => by rw [List.mem_singleton.mp hp])
    rcases turn i n acc σ3 H3 w3 with ⟨stop, qf⟩ | ⟨go, zl, step⟩
    · refine thn (T.done (cxComp X scope h2.objs.size M s H fp) rfl rfl rfl hcm i _ s3 σ3 H3 NoE I3' fk3 st3 stop) fun r s4 ⟨hr, I4⟩ => ?_
      subst hr
      obtain ⟨e4, n4, _⟩ := I4.pin (s.heap.objs.size, lob its k) (by simp [cxComp])
      have nD : ∀ b u, H3 b = some u → b ≠ s.heap.objs.size := fun b u e z => by rw [z, nD3] at e; cases e
      have u0 : Un (frs X.stack) fp H H3 s.heap s4.heap := I4.base
      have J1 : Inv X pins σ (upd H3 s.heap.objs.size (.lst acc)) s4 := by
        refine I.call' (ch := fp) I4.os ⟨u0.keep, u0.slot, fun b o e nb hx => ?_, u0.there, fun b xs e => ?_, fun b o u e => ?_, fun b ps e => ?_⟩ (fun b u e => ?_) I4.bare fun b hb => ⟨(f2 b hb).2.2.2.1, (f2 b hb).2.1, (f2 b hb).2.2.2.2.1, (f2 b hb).2.2.2.2.2⟩
        · rw [upd_ne (adr_ne (Heap.lt_size e) (Nat.le_refl _))]
          exact u0.free b o e nb hx
        · have q := u0.tups b xs e
          rw [upd_ne (nD b _ q)]; exact q
        · have q := u0.frzs b o u e
          rw [upd_ne (nD b _ q)]; exact q
        · obtain ⟨more, q⟩ := u0.tbls b ps e
          exact ⟨more, by rw [upd_ne (nD b _ q)]; exact q⟩
        · by_cases c : b = s.heap.objs.size
          · subst c
            rw [upd_same] at e
            cases e
            exact ⟨z3, its, k, rv3, e4⟩
          · rw [upd_ne c] at e
            exact (I4.hok b u e).stay (fun _ _ _ q => q) (fun z q => by rw [upd_ne (nD z _ q)]; exact q) fun z xs q => by rw [upd_ne (nD z _ q)]; exact q
      obtain ⟨m4, hm4, _⟩ := I4.loc
      have fC : H3 h2.objs.size = none := I4.free
      refine fin s.heap.objs.size h2.objs.size s4 H3 acc ⟨m4, hm4⟩ J1 (by rw [upd_ne hCD]; exact fC) (adr_en I.lt hCge) (fun x c e => adr_ne (clt x c e) hCge) (fun σ1 H1 s1 h' K1 n1 sb => ?_) (qf _ nD3)
      exact K1.turned (t' := s1.toks) (it := h2.objs.size) (fun b o hb e => sb.extBut b o hb e) n1 (adr_en I.lt hCge) (.inr (Nat.le_trans I.sz hCge)) (fun x c e => adr_ne (clt x c e) hCge) fun p hp => by
        obtain ⟨e, _⟩ := I.pin p hp
        exact adr_ne (Heap.lt_size e) hCge
    · refine thn (T.item (cxComp X scope h2.objs.size M s H fp) rfl rfl rfl hcm i _ s3 σ3 H3 NoE I3' fk3 st3 go) fun r s4 ⟨u, hr, h4⟩ => ?_
      subst hr
      refine thn h4 fun _ s5 ⟨x, H5, I5, r5, y5, st5, fr5⟩ => ?_
      have I5' := I5.pinned (fpk (ps := [(s.heap.objs.size, lob its k)]) fr5 (fun p hp => by rw [List.mem_singleton.mp hp])) (T.obj _ _ st5)
      obtain ⟨hg, hc, he⟩ := hb h2.objs.size
      refine thn (hg _ s5 σ3 H5 x u _ I5' r5 (step x H5 y5)) fun _ s6 ⟨σ6, H6, I6, q6⟩ => ?_
      refine thn (hc _ s6 σ6 H6 _ I6 q6) fun b s7 ⟨H7, I7, q7⟩ => ?_
      have next : ∀ {acc' : List V} {its' : List Value} {k' : Nat} {H8 : Hp} {s8 : Shared}, Inv (cxComp X scope h2.objs.size M s H fp) (pinsAt fp s5.heap) σ6 H8 s8 → s8.heap.get? s.heap.objs.size = some (lob its' k') → Vals acc' its' → H8 s.heap.objs.size = none →
          acc'.length ≤ sizeLine → (∃ m', m' < n ∧ W (i + 1) m' acc' σ6 H8) → ∃ m, m < n ∧ ∃ i acc σ' H' its k, Inv (cxComp X scope h2.objs.size M s H fp) [] σ' H' s8 ∧ tn i s8.heap ∧ (∀ b ∈ fp, H' b = none) ∧ W i m acc σ' H' ∧
          s8.heap.get? s.heap.objs.size = some (lob its k) ∧ Vals acc its ∧ H' s.heap.objs.size = none ∧ acc.length ≤ sizeLine := fun {acc' its' k' H8 s8} I8 hD8 rv8 nD8 z8 ⟨m', hm', w8⟩ => by
        refine ⟨m', hm', i + 1, acc', σ6, H8, its', k', I8.pins_of (fun p hp => nomatch hp), T.keep _ _ _ st5 fun b hb o e => (I8.pin (b, o) (List.mem_append_right _ (mem_pinsAt hb e))).1, fun b hb => ?_, w8, hD8, rv8, nD8, z8⟩
        obtain ⟨o, e, _⟩ := T.obj _ _ st5 b hb
        exact (I8.pin (b, o) (List.mem_append_right _ (mem_pinsAt hb e))).2.1
      have drop : ∀ {σ' : St} {H' : Hp} {s' : Shared}, Inv (cxComp X scope h2.objs.size M s H fp) ([(s.heap.objs.size, lob its k)] ++ pinsAt fp s5.heap) σ' H' s' → Inv (cxComp X scope h2.objs.size M s H fp) (pinsAt fp s5.heap) σ' H' s' := fun I' =>
        I'.pins_of fun p hp => I'.pin p (List.mem_append_right _ (List.mem_append_right _ hp))
      cases b with
      | false =>
        obtain ⟨e7, n7, _⟩ := I7.pin (s.heap.objs.size, lob its k) (by simp [cxComp])
        exact next (drop I7) e7 rv3 n7 z3 q7
      | true =>
        refine thn (he _ s7 σ6 H7 _ I7 q7) fun v s8 ⟨y, H8, I8, r8, q8⟩ => ?_
        obtain ⟨e8, n8, _⟩ := I8.pin (s.heap.objs.size, lob its k) (by simp [cxComp])
        have I8' := (drop I8).track (D := s.heap.objs.size) (o := .lst acc) n8 (Nat.le_refl _) (Ne.symm hCD) (fun x c e => adr_ne (clt x c (cl x c e)) (Nat.le_refl _)) (fun p hp => by
          have hp : p ∈ pinsAt fp s5.heap := hp
          exact adr_ne (flt p.1 (of_pinsAt hp).1) (Nat.le_refl _)) ⟨z3, its, k, rv3, e8⟩
        refine thn (mt_append (X := cxComp X scope h2.objs.size M s H fp) _ s8 σ6 _ (.ref s.heap.objs.size) [y] (.ref s.heap.objs.size) [v] (fun _ H9 => H9 = upd H8 s.heap.objs.size (.lst (acc ++ [y]))) I8' rfl (.cons r8 .nil) ⟨s.heap.objs.size, acc, y, rfl, rfl, upd_same, zl, upd_upd⟩) fun _ s9 ⟨_, H9, I9, _, e9⟩ => ?_
        subst e9
        obtain ⟨z9, its9, k9, rv9, hD9⟩ := (show ObjOk X.prog X.w (upd H8 s.heap.objs.size (.lst (acc ++ [y]))) s9.heap s.heap.objs.size (.lst (acc ++ [y])) from I9.hok _ _ upd_same)
        exact next (I9.untrack n8) hD9 rv9 n8 z9 q8
  exact codeAny_compStart_list (loop _ rfl) (T.self X.A 0 _ _ _ st1 (loop _ rfl))
end
section
variable {X : Cx} {sc : Scope} {scope : Scope} {elt tg iter : Expr} {ifs : List Expr} {pos : Pos} {wi : TI} {g : TG} {tc : TT} {te : TE}
theorem pe_comp (N : List Str) (M : List Str) (ix : List (Option Nat)) (ok : ScOk sc N scope M ix) (hsc : X.env.scope = sc) (hN : X.N = N) (hcm : X.calm = true) (hi : PI X tg iter wi)
    (hb : ∀ C s H fp, (cxComp X scope C M s H fp).N.Nodup → PG (cxComp X scope C M s H fp) tg g ∧ PTs (cxComp X scope C M s H fp) ifs tc ∧ PE (cxComp X scope C M s H fp) elt te) (hs : ∀ x, foldedSetIterable iter X.env x = pure x := by intro _; rfl) :
    PE X (.ListComp elt [⟨tg, iter, ifs, 0⟩] scope pos) (tComp ix wi g tc te) := by
  subst hN
  intro pins s σ H Q I h
  rw [eval_ListComp]
  refine wpAny_comprehension_free (use := none) rfl hs (clos_eq (cells_of ok hsc I)) ok.kind ok.loc (thn (hi pins s σ H _ I h) fun v s1 h1 => thn h1 fun itv s2 h2 => ?_)
  obtain ⟨it, fp, tn, J, H2, e, I2, T, st2, f2, w2⟩ := h2
  subst e
  refine comp_block (RR := fun acc C => compPost (model X.prog X.w) X.A X.xe none (EP X pins σ Q) acc C) ok hsc hcm I2 T st2 f2 (fun C => hb C s2 H2 fp ok.nd) w2 fun D C s' H' acc ⟨m, hm⟩ J1 nC _ _ lg q => ?_
  exact ⟨m, hm, fun h' sb => ⟨.ref D, _, lg _ _ _ _ J1 nC sb, rfl, q⟩⟩
theorem ps_setC {i : Nat} {y : Str} {py spos : Pos} (hN : X.N.Nodup) (hi' : X.N[i]? = some y) (hy : Loc X.env.scope y) (N : List Str) (M : List Str) (ix : List (Option Nat)) (ok : ScOk sc N scope M ix) (hsc : X.env.scope = sc) (hN' : X.N = N) (hcm : X.calm = true) (hi : PI X tg iter wi)
    (hb : ∀ C s H fp, (cxComp X scope C M s H fp).N.Nodup → PG (cxComp X scope C M s H fp) tg g ∧ PTs (cxComp X scope C M s H fp) ifs tc ∧ PE (cxComp X scope C M s H fp) elt te)
    (hsw : swapsWith (.ListComp elt [⟨tg, iter, ifs, 0⟩] scope pos) (some (.Name y py)) spos.line X.env = pure true := by rfl) (hs : ∀ x, foldedSetIterable iter X.env x = pure x := by intro _; rfl)
    (hf : X.fn y = true ∨ X.env.scope.names.lookup y = some .local := by first | exact .inl rfl | exact .inr rfl | assumption) :
    PS X (.Assign [.Name y py] (.ListComp elt [⟨tg, iter, ifs, 0⟩] scope pos) spos) (fun D σ H => tComp ix wi g tc te σ H fun v H1 => D.nx (σ.set i (some v)) H1) := by
  subst hN'
  intro pins s σ H D I h
  rw [exec_Assign_Name_used _ _ _ _ hsw]
  refine wpAny_bind (wpAny_standAt (wpAny_bind ?_))
  show wpAny _ X.A (do let _ ← comprehension (.ListComp elt [⟨tg, iter, ifs, 0⟩] scope pos) scope X.env _ (newList []) false (eval iter X.env) (some (assign (.Name y py) X.env))) _ _ s
  refine wpAny_bind (wpAny_mono (wpAny_comprehension_free (use := some (assign (.Name y py) X.env)) (Q := fun _ s' => SP X pins D .next s') rfl hs (clos_eq (cells_of ok hsc I)) ok.kind ok.loc
    (thn (hi pins s σ H _ I h) fun v s1 h1 => thn h1 fun itv s2 h2 => ?_)) (fun _ s' hq => wpAny_pure (wpAny_pure hq)) fun _ _ e => e)
  obtain ⟨it, fp, tn, J, H2, e, I2, T, st2, f2, w2⟩ := h2
  subst e
  refine comp_block (RR := fun acc C => compPost (model X.prog X.w) X.A X.xe (some (assign (.Name y py) X.env)) (fun _ s' => SP X pins D .next s') acc C) ok hsc hcm I2 T st2 f2 (fun C => hb C s2 H2 fp ok.nd) w2 fun Da C s' H' acc ⟨m, hm⟩ J1 nC neL neC lg q => ?_
  show wpAny _ X.A (assign (.Name y py) X.env (.ref Da)) _ _ _
  refine wpAny_assign_Name (store_ok2 J1 hN hi' hy (v := .ref Da) rfl (fun s'' I'' ⟨a, sb, ha⟩ => ?_) hf)
  have hCa : C ≠ a := by
    rcases ha with z | z
    · rw [z]; exact neL
    · exact Ne.symm (neC y a z)
  exact ⟨m, hm.sameBut sb hCa, fun h' sb' => ⟨σ.set i (some (.ref Da)), _, lg _ _ _ _ I'' nC sb', q⟩⟩
end
end L2
namespace L2
open PySem PySem.Spec PyProof.Rows
section
variable {X : Cx}
def rIsi (K : PySem.W.Frag) : List V → Hp → VK → Prop := fun xs H Q => ∃ x c t cv b, xs = [x, c] ∧ TyOf K H x t ∧ ((∃ n, c = .ty n ∧ cv = .type n) ∨ (∃ a, c = .ref a ∧ cv = .ref a)) ∧ PySem.W.kitOne K t cv = some b ∧ Q (.bl b) H
theorem call_isi : CallR X (.builtin "isinstance") (rIsi X.K) := by
  intro pins s σ H xs us Q I r h
  obtain ⟨x, c, t, cv, b, rfl, ty, hc, e, q⟩ := h
  obtain ⟨u, w', rfl, ru, rc⟩ := vals2 r
  have hw : w' = cv := by
    rcases hc with ⟨n, rfl, rfl⟩ | ⟨a, rfl, rfl⟩
    · exact rc
    · exact rc
  subst hw
  exact isinst_ok I ru ty e fun tk => ⟨.bl b, H, I.tok tk, rfl, q⟩
theorem vint_get {ns : List Int} {its : List Value} (r : Vals (ns.map V.int) its) {j : Nat} (h : j < its.length) : ∃ (hj : j < ns.length), RelV (.int ns[j]) its[j] := by
  have hl := r.length
  rw [List.length_map] at hl
  have hj : j < ns.length := by omega
  obtain ⟨u, e, q⟩ := r.get (i := j) (x := .int ns[j]) (by rw [List.getElem?_map, List.getElem?_eq_getElem hj]; rfl)
  rw [List.getElem?_eq_getElem h] at e
  cases e
  exact ⟨hj, q⟩
theorem all_same {ns ms : List Int} (h : ns.length = ms.length) : ((List.range ns.length).all fun j => decide (ns[j]? = ms[j]?)) = decide (ns = ms) := by
  by_cases e : ns = ms
  · subst e
    rw [decide_eq_true rfl]
    simp
  · rw [decide_eq_false e]
    refine Bool.eq_false_iff.mpr fun c => e ?_
    rw [List.all_eq_true] at c
    refine List.ext_getElem? fun j => ?_
    by_cases hj : j < ns.length
    · exact of_decide_eq_true (c j (List.mem_range.mpr hj))
    · rw [List.getElem?_eq_none (by omega), List.getElem?_eq_none (by omega)]
theorem eqAt_ints {A : Around} {s : Shared} {ns ms : List Int} {its its2 : List Value} (r1 : Vals (ns.map V.int) its) (r2 : Vals (ms.map V.int) its2) (j : Nat) (h1 : j < its.toArray.size) (h2 : j < its2.toArray.size) :
    SeqAt.EqAt A s its.toArray[j] its2.toArray[j] (decide (ns[j]? = ms[j]?)) := by
  have g1 : j < its.length := by simpa using h1
  have g2 : j < its2.length := by simpa using h2
  obtain ⟨k1, q1⟩ := vint_get r1 g1
  obtain ⟨k2, q2⟩ := vint_get r2 g2
  have e := eqAt_V (A := A) (s := s) q1 q2 rfl rfl
  have d : eqV (.int ns[j]) (.int ms[j]) = decide (ns[j]? = ms[j]?) := by
    rw [List.getElem?_eq_getElem k1, List.getElem?_eq_getElem k2]
    show (ns[j] == ms[j]) = _
    by_cases c : ns[j] = ms[j]
    · rw [c]; simp
    · rw [decide_eq_false (fun z => c (Option.some.inj z))]
      exact beq_eq_false_iff_ne.mpr c
  rw [d] at e
  simpa using e
def rEqL (K : PySem.W.Frag) (neg : Bool) : R2 := fun x y H Q => ∃ (a b : Addr) (ns ms : List Int), x = .ref a ∧ y = .ref b ∧ SqL K H a (ns.map V.int) ∧ SqL K H b (ms.map V.int) ∧ Q (.bl (if neg then !decide (ns = ms) else decide (ns = ms))) H
theorem len_ne {ns ms : List Int} {its its2 : List Value} (r1 : Vals (ns.map V.int) its) (r2 : Vals (ms.map V.int) its2) (h : ¬ ns.length = ms.length) : (its.toArray.size != its2.toArray.size) = true ∧ decide (ns = ms) = false := by
  have l1 := r1.length
  have l2 := r2.length
  rw [List.length_map] at l1 l2
  refine ⟨?_, decide_eq_false fun e => h (by rw [e])⟩
  rw [bne_iff_ne, List.size_toArray, List.size_toArray]
  omega
theorem op_eqL (hu : X.A.units < cLine) : OpR X (compareOp .Eq) (rEqL X.K false) := by
  intro pins s σ H x y v u Q I rx ry h
  obtain ⟨a, b, ns, ms, rfl, rfl, h1, h2, q⟩ := h
  cases rx
  cases ry
  obtain ⟨its, r1, p1, _⟩ := I.list h1
  obtain ⟨its2, r2, p2, _⟩ := I.list h2
  by_cases hl : ns.length = ms.length
  · have l1 := r1.length
    have l2 := r2.length
    rw [List.length_map] at l1 l2
    refine SeqAt.eq_listAt p1.isList p2.isList (by simp only [List.size_toArray]; omega) hu (eqAt_ints r1 r2) ?_
    rw [List.size_toArray, ← l1, all_same hl]
    exact ⟨.bl (decide (ns = ms)), H, I, rfl, q⟩
  · obtain ⟨c1, c2⟩ := len_ne r1 r2 hl
    refine SeqAt.eq_list_lengthsAt p1.isList p2.isList c1 hu ⟨.bl false, H, I, rfl, ?_⟩
    rw [← c2]
    exact q
theorem op_neL (hu : X.A.units < cLine) : OpR X (compareOp .NotEq) (rEqL X.K true) := by
  intro pins s σ H x y v u Q I rx ry h
  obtain ⟨a, b, ns, ms, rfl, rfl, h1, h2, q⟩ := h
  cases rx
  cases ry
  obtain ⟨its, r1, p1, _⟩ := I.list h1
  obtain ⟨its2, r2, p2, _⟩ := I.list h2
  by_cases hl : ns.length = ms.length
  · have l1 := r1.length
    have l2 := r2.length
    rw [List.length_map] at l1 l2
    refine (SeqAt.RcNeAt.lists p1.isList p2.isList (by simp only [List.size_toArray]; omega) hu (eqAt_ints r1 r2)) X.prog X.w X.xe _ ?_
    rw [List.size_toArray, ← l1, all_same hl]
    exact ⟨.bl (!decide (ns = ms)), H, I, rfl, q⟩
  · obtain ⟨c1, c2⟩ := len_ne r1 r2 hl
    refine (SeqAt.RcNeAt.lists_lengths p1.isList p2.isList c1 hu) X.prog X.w X.xe _ ⟨.bl true, H, I, rfl, ?_⟩
    have q : Q (.bl (!decide (ns = ms))) H := q
    rw [c2] at q
    exact q
def rSum (K : PySem.W.Frag) : List V → Hp → VK → Prop := fun xs H Q => ∃ (a : Addr) (ns : List Int), xs = [.ref a] ∧ SqL K H a (ns.map V.int) ∧ Q (.int ns.sum) H
theorem call_sum (hcm : X.calm = true) : CallR X (.builtin "sum") (rSum X.K) := by
  intro pins s σ H xs us Q I r h
  obtain ⟨a, ns, rfl, h1, q⟩ := h
  obtain ⟨u, rfl, ru⟩ := vals1 r
  cases ru
  obtain ⟨its, r1, p1, _⟩ := I.list h1
  have hi : IntsAre its ns := intsAre_of r1
  obtain ⟨ys, hy⟩ := hi.allInts.items
  have hL := p1.isList
  rw [hy] at hL
  refine sum_intListG (I.ok.hd hcm) hL fun h' tk t' hk => ⟨.int ns.sum, H, I.kept hk, ⟨t', ?_⟩, q⟩
  have e1 := nums_intItems ys
  rw [← hy] at e1
  have e2 := hi.numsOf
  rw [preSum_eq, List.take_of_length_le (by simp), ← e1]
  show Value.int (numsOf its).sum t' = _
  rw [e2]
theorem vals_of_ints : ∀ {vs : List Value} {ns : List Int}, IntsAre vs ns → Vals (ns.map V.int) vs
  | _, _, .nil => .nil
  | _, _, .cons n t h => .cons ⟨t, rfl⟩ (vals_of_ints h)
def rSorted (K : PySem.W.Frag) : List V → Hp → VK → Prop := fun xs H Q => ∃ (a : Addr) (ns : List Int), xs = [.ref a] ∧ SqL K H a (ns.map V.int) ∧ ns.length < 64 ∧
  ∀ (ns' : List Int) (p : Addr), ns'.Perm ns → ns'.Pairwise (· ≤ ·) → H p = none → Q (.ref p) (upd H p (.lst (ns'.map V.int)))
theorem call_sorted : CallR X (.builtin "sorted") (rSorted X.K) := by
  intro pins s σ H xs us Q I r h
  obtain ⟨a, ns, rfl, h1, h64, q⟩ := h
  obtain ⟨u, rfl, ru⟩ := vals1 r
  cases ru
  obtain ⟨its, r1, p1, _⟩ := I.list h1
  have hl := r1.length
  rw [List.length_map] at hl
  refine sorted_ints p1.isList (intsAre_of r1) (by omega) fun out ns' a1 a2 a3 => ?_
  obtain ⟨e, he⟩ := sortedAll_at s.heap its out
  have a4 := a2.length_eq
  refine ⟨.ref _, _, I.laid (t' := s.toks) (a := s.heap.objs.size + 1) (o := .lst (ns'.map V.int)) (fun _ _ z => sortedAll_old z) (Nat.le_succ _) ⟨?_, out.toList, e, vals_of_ints a1, ?_⟩, rfl, q ns' _ a2 a3 (I.hok.fresh (Nat.le_succ _))⟩
  · rw [List.length_map]
    have : (64 : Nat) ≤ sizeLine := by decide
    omega
  · rw [he]
def tKw (r : List V → List V → Hp → VK → Prop) (t tk : TA) : TE := fun σ H Q => t σ H fun vs H1 => tk σ H1 fun zs H2 => r vs zs H2 Q
def CallKR (X : Cx) (f : Value) (ks : List Str) (r : List V → List V → Hp → VK → Prop) : Prop :=
  ∀ (pins : List (Addr × Obj)) (s : Shared) (σ : St) (H : Hp) (xs zs : List V) (us ws : List Value) (Q : VK), Inv X pins σ H s → Vals xs us → Vals zs ws → r xs zs H Q →
    wpAny (model X.prog X.w) X.A (call f us (ks.zip ws)) (EP X pins σ Q) X.xe s
theorem pe_callBK {x : Str} {p pos : Pos} {id : String} {e : Expr} {es : List Expr} {kws : List Keyword} {ks : List Str} {t tk : TA} {r : List V → List V → Hp → VK → Prop} (hc : CallKR X (.builtin id) ks r) (hg : Gl X x) (hm : X.mg x = none) (hv : bootBuiltins x = some (.builtin id)) (ha : PA X (e :: es) t) (hkw : PK X kws tk)
    (hks : (backToKw pos (keywordEach kws X.env)).filterMap (·.1) = ks := by rfl) (hn : x ≠ "__name__" := by decide) (hdb : (x == ("__debug__" : Str)) = false := by decide)
    (he : backTo pos (starEach (e :: es) X.env) = (false, eval e X.env) :: backTo pos (starEach es X.env) := by rfl) (hplain : (backTo pos (starEach (e :: es) X.env)).any (·.1) = false := by rfl)
    (hall : (backToKw pos (keywordEach kws X.env)).all (·.1.isSome) = true := by rfl) (hno : (backToKw pos (keywordEach kws X.env)).any (·.1.isNone) = false := by rfl) : PE X (.Call (.Name x p) (e :: es) kws pos) (tKw r t tk) := by
  intro pins s σ H Q I h
  refine wpAny_Call_Name_kw (ld_blt I hg hm hv ?_ hn hdb)
  by_cases hee : backTo pos (starEach (e :: es) X.env) = [(false, eval e X.env)]
  all_goals
    refine callWith_builtin_kwB hplain hno ?_
    have sp := ha pos pins s σ H _ I h
    rw [he] at sp ⊢
    refine evalArgs_kwB hall (thn sp fun us s1 ⟨vs, H1, I1, r1, q1⟩ => thn (hkw pos pins s1 σ H1 _ I1 q1) fun ws s2 ⟨zs, H2, I2, r2, q2⟩ => ?_)
    rw [hks]
    exact hc pins s2 σ H2 vs zs us ws Q I2 r1 r2 q2
def rSortedR (K : PySem.W.Frag) : List V → List V → Hp → VK → Prop := fun xs zs H Q => ∃ (a : Addr) (ns : List Int) (b : Bool), xs = [.ref a] ∧ zs = [.bl b] ∧ SqL K H a (ns.map V.int) ∧ ns.length < 64 ∧
  ∀ (ns' : List Int) (p : Addr), ns'.Perm ns → Ordered b ns' → H p = none → Q (.ref p) (upd H p (.lst (ns'.map V.int)))
theorem call_sortedR : CallKR X (.builtin "sorted") [Str.ofString "reverse"] (rSortedR X.K) := by
  intro pins s σ H xs zs us ws Q I r rz h
  obtain ⟨a, ns, b, rfl, rfl, h1, h64, q⟩ := h
  obtain ⟨u, rfl, ru⟩ := vals1 r
  obtain ⟨w', rfl, rw'⟩ := vals1 rz
  cases ru
  cases rw'
  obtain ⟨its, r1, p1, _⟩ := I.list h1
  have hl := r1.length
  rw [List.length_map] at hl
  refine sorted_ints_rev (b := b) p1.isList (intsAre_of r1) (by omega) fun out ns' a1 a2 a3 => ?_
  obtain ⟨e, he⟩ := sortedAll_at s.heap its out
  have a4 := a2.length_eq
  refine ⟨.ref _, _, I.laid (t' := s.toks) (a := s.heap.objs.size + 1) (o := .lst (ns'.map V.int)) (fun _ _ z => sortedAll_old z) (Nat.le_succ _) ⟨?_, out.toList, e, vals_of_ints a1, ?_⟩, rfl, q ns' _ a2 a3 (I.hok.fresh (Nat.le_succ _))⟩
  · rw [List.length_map]
    have : (64 : Nat) ≤ sizeLine := by decide
    omega
  · rw [he]
end
end L2
namespace L2
open PySem PySem.Spec PyProof.Rows
theorem draws_from {prog : Program} {w : World} {A : Around} {it : Addr} {fp : List Addr} {n : Nat} {P : Nat → Value → Prop} {St : Nat → Heap → Prop} (D : Draws prog w A it fp n P St) (c : Nat) :
    Draws prog w A it fp (n + c) (fun k x => ∃ i, k = i + c ∧ P i x) (fun k h => ∃ i, k = i + c ∧ St i h) where
  live := fun _ h ⟨i, _, st⟩ => D.live i h st
  frame := fun _ h h' ⟨i, e, st⟩ k => ⟨i, e, D.frame i h h' st k⟩
  item := fun k s Q E hk ⟨i, e, st⟩ hQ => D.item i s Q E (by omega) st fun x h' tk p st' sb => hQ x h' tk ⟨i, e, p⟩ ⟨i + 1, by omega, st'⟩ sb
  done := fun s Q E ⟨i, e, st⟩ hE => D.done s Q E (by obtain rfl : i = n := by omega
                                                      exact st) hE
theorem draws_end {prog : Program} {w : World} {A : Around} (hh : A.handled = none) (it a : Addr) (items : Array Value) :
    Draws prog w A it [it, a] 0 (fun _ _ => False) (fun _ h => ∃ j, items.size ≤ j ∧ h.IsListIter it a j ∧ h.IsList a items) where
  live := fun _ h ⟨j, _, ⟨o, e, _⟩, _⟩ => ⟨o, e⟩
  frame := fun _ h h' ⟨j, z, st, hl⟩ k => ⟨j, z, st.at fun o e => k it (by simp) o e, hl.at fun o e => k a (by simp) o e⟩
  item := fun k s Q E hk => absurd hk (Nat.not_lt_zero _)
  done := fun s Q E ⟨j, z, st, hl⟩ hE => wpAny_nextOf_list_end hh st hl (Array.getElem?_eq_none z) hE
def Ite (K : PySem.W.Frag) (a : Addr) (c : Nat) : It :=
  ⟨fun i H => ∃ xs x, SqL K H a xs ∧ xs[i]? = some x, fun i H v H' => ∃ p, v = .ref p ∧ H p = none ∧ ∀ xs x, SqL K H a xs → xs[i]? = some x → H' = upd H p (.tup [.int ((i + c : Nat) : Int), x]), fun i H => ∃ xs, SqL K H a xs ∧ xs.length ≤ i⟩
theorem list_ne_iter {h : Heap} {a it : Addr} {its : Array Value} {i : Nat} (hl : h.IsList a its) (st : h.IsListIter it a i) : a ≠ it := by
  rintro rfl
  obtain ⟨o, e, c, _⟩ := hl
  obtain ⟨o', e', c', _⟩ := st
  rw [e] at e'
  cases e'
  rw [c] at c'
  exact absurd c' (by decide)
theorem list_ne_enum {h : Heap} {a e it : Addr} {its : Array Value} {i : Int} {old : Value} (hl : h.IsList a its) (he : IsEnum h e it i old) : a ≠ e := by
  rintro rfl
  obtain ⟨o, e1, c, _⟩ := hl
  have he : h.get? a = _ := he
  rw [e1] at he
  rw [Option.some.inj he] at c
  have c : Value.type "enumerate" = Value.type "list" := c
  exact absurd c (by decide)
theorem turn_enum {P : Program} {w : World} {K : PySem.W.Frag} {elts : List Expr} {x1 : Nat} {tp : Pos} (a e it : Addr) (c : Nat) (hne : e ≠ it) :
    Turn P w K (.Tuple elts x1 tp) (Ite K a c) [e, it] e (fun i h => (∃ old, IsEnum h e it ((i + c : Nat) : Int) old) ∧ h.IsListIter it a i) where
  mem := by simp
  obj := fun i h st b hb => by
    obtain ⟨⟨old, he⟩, o, e1, c1, d1⟩ := st
    rcases List.mem_cons.mp hb with z | z
    · subst z
      exact ⟨_, he, fun v q => nomatch q⟩
    · obtain rfl : b = it := by simpa using z
      exact ⟨o, e1, fun v q => by rw [d1] at q; cases q⟩
  keep := fun i h h' ⟨⟨old, he⟩, st⟩ k => ⟨⟨old, k e (by simp) _ he⟩, st.at fun o q => k it (by simp) o q⟩
  item := by
    intro X hP hw hK hc i pins s σ H E I hf st hg
    subst hP hw hK
    obtain ⟨xs, x, hq, hx⟩ := hg
    obtain ⟨⟨old, he⟩, hit⟩ := st
    obtain ⟨its, rv, p, hz⟩ := I.list hq
    obtain ⟨u, hu, ru⟩ := rv.get hx
    have nai := list_ne_iter p.isList hit
    have nae := list_ne_enum p.isList he
    have hlt : i < its.length := (List.getElem?_eq_some_iff.mp hu).1
    obtain ⟨f0, f1, f2, f3, f4, f5⟩ := hf e (by simp)
    obtain ⟨g0, g1, g2, g3, g4, g5⟩ := hf it (by simp)
    refine wpAny_pyNext_enum_itemD (draws_from (Draws.list (A := X.A.in1) (I.ok.hd hc) it a nai its.toArray) c) he ⟨i, rfl, hit, p.isList⟩ (by rw [List.size_toArray]; omega) hne (by
      intro z
      rcases List.mem_cons.mp z with z | z
      · exact hne z
      · exact nae (List.mem_singleton.mp z).symm) fun x' h' tk hP ho hst hT hsz hk => ⟨.ref s.heap.objs.size, rfl, ?_⟩
    obtain ⟨i', ei, hx'⟩ := hP
    obtain rfl : i' = i := by omega
    have ex : x' = u := by
      have hx' : its.toArray[i']? = some x' := hx'
      rw [List.getElem?_toArray, hu] at hx'
      exact (Option.some.inj hx').symm
    subst ex
    obtain ⟨i2, ei2, hit2, _⟩ := hst
    obtain rfl : i2 = i' + 1 := by omega
    have se : e < s.heap.objs.size := Heap.lt_size he
    refine wpAny_letOwnedTupleGo_enum ho fun h2 he2 sb => ?_
    have sb : Heap.SameBut e h' h2 := sb
    have kp : ∀ b o, b ≠ e → b ≠ it → s.heap.get? b = some o → h2.get? b = some o := fun b o n1 n2 q => (sb.2 b n1).trans (hk b o n1 n2 q)
    have tup : h2.get? s.heap.objs.size = some { cls := .type "tuple", data := .seq #[.int ((i' + c : Nat) : Int) tk, x'] } := (sb.2 _ (adr_en se (Nat.le_refl _))).trans hT
    have nt : ∀ b o, H b = some o → b ≠ e ∧ b ≠ it := fun b o q => ⟨fun z => (by rw [z, f0] at q; cases q), fun z => (by rw [z, g0] at q; cases q)⟩
    have fr : H s.heap.objs.size = none := I.fresh
    have np : ∀ b o, H b = some o → b ≠ s.heap.objs.size := fun b o q z => by rw [z, fr] at q; cases q
    refine ⟨.ref s.heap.objs.size, upd H s.heap.objs.size (.tup [.int ((i' + c : Nat) : Int), x]), ?_, rfl, ⟨_, rfl, fr, fun ys y hy hy' => ?_⟩, ⟨⟨x', ?_⟩, hit2.at fun o q => (sb.2 it (Ne.symm hne)).trans q⟩, fun b hb => ?_⟩
    · have out : ∀ b, b ∉ [e, it] → b ≠ e ∧ b ≠ it := fun b hb => ⟨fun z => hb (by simp [z]), fun z => hb (by simp [z])⟩
      show Inv X pins σ _ { s with heap := h2, gens := s.gens, drawn := s.drawn, toks := tk + 1 }
      refine I.step (g' := s.gens) (d' := s.drawn) (t' := tk + 1) (ch := [e, it]) (fun b hb => ?_) (fun b o _ _ hc q _ => kp b o (out b hc).1 (out b hc).2 q) (fun b o _ _ hc q _ => ⟨o.slots, kp b o (out b hc).1 (out b hc).2 q⟩)
        (fun b o hc q nb => ?_) (fun b o hc q => ⟨o, kp b o (out b hc).1 (out b hc).2 q⟩) (fun b ys q => ?_) (fun b o v q => ?_) (fun b ps q => ⟨#[], ?_⟩) (fun m hm => ?_) (fun b v q => ?_) I.bare
      · rcases List.mem_cons.mp hb with z | z
        · subst z; exact ⟨f3, f1, f4, f5⟩
        · obtain rfl : b = it := by simpa using z
          exact ⟨g3, g1, g4, g5⟩
      · rw [upd_ne (adr_ne (Heap.lt_size q) (Nat.le_refl _))]; exact nb
      · rw [upd_ne (np b _ q)]; exact q
      · rw [upd_ne (np b _ q)]; exact q
      · rw [upd_ne (np b _ q), q]; simp
      · obtain ⟨o, es, ep, q, r⟩ := hm
        exact ⟨o, es, ep, kp _ o (Ne.symm f1) (Ne.symm g1) q, r⟩
      · by_cases z : b = s.heap.objs.size
        · subst z
          rw [upd_same] at q
          cases q
          refine ⟨by show (2 : Nat) ≤ sizeLine; decide, [.int ((i' + c : Nat) : Int) tk, x'], .cons ⟨tk, rfl⟩ (.cons ru .nil), ?_⟩
          exact ⟨_, tup, rfl, _, rfl⟩
        · rw [upd_ne z] at q
          refine (I.hok b v q).stay (fun d o hd qd => ?_) (fun d qd => by rw [upd_ne (np d _ qd)]; exact qd) fun d ys qd => by rw [upd_ne (np d _ qd)]; exact qd
          rcases hd with z | z
          · rw [z] at qd ⊢; exact kp b o (nt b _ q).1 (nt b _ q).2 qd
          · exact kp d o (nt d _ z).1 (nt d _ z).2 qd
    · rw [I.list_inj hy hq] at hy'
      rw [hx] at hy'
      cases hy'
      rfl
    · have e3 : ((i' + c : Nat) : Int) + 1 = ((i' + 1 + c : Nat) : Int) := by omega
      rw [← e3]
      exact he2
    · have q : b ≠ s.heap.objs.size := by
        rcases List.mem_cons.mp hb with z | z
        · subst z; exact adr_ne se (Nat.le_refl _)
        · obtain rfl : b = it := by simpa using z
          obtain ⟨o, q, _⟩ := hit
          exact adr_ne (Heap.lt_size q) (Nat.le_refl _)
      rw [upd_ne q]
      exact (hf b hb).1
  done := by
    intro X hP hw hK hc i pins s σ H E I hf st hg
    subst hP hw hK
    obtain ⟨xs, hq, hx⟩ := hg
    obtain ⟨⟨old, he⟩, hit⟩ := st
    obtain ⟨its, rv, p, hz⟩ := I.list hq
    have hl := rv.length
    obtain ⟨g0, g1, g2, g3, g4, g5⟩ := hf it (by simp)
    refine wpAny_pyNext_enum_endD (draws_end (A := X.A.in1) (I.ok.hd hc) it a its.toArray) he ⟨i, by rw [List.size_toArray]; omega, hit, p.isList⟩ fun h' eb => ⟨rfl, ?_⟩
    exact I.turned (t' := s.toks) (fun b o hb q => eb b o hb q) g0 g1 g3 g4 g5
  self := fun _ _ _ _ _ ⟨⟨_, he⟩, _⟩ h => wpAny_pyIter_enum he h
section
variable {X : Cx} {elts : List Expr} {x1 : Nat} {tp : Pos}
def iEnum (K : PySem.W.Frag) (c : Nat) (ta : TA) : TI := fun σ H R => ta σ H fun vs H1 => ∃ a, vs = [.ref a] ∧ (∃ xs, SqL K H1 a xs) ∧ R (Ite K a c) H1
theorem enum_it {pins : List (Addr × Obj)} {σ : St} {H : Hp} {s : Shared} {R : It → Hp → Prop} {E : Value → Shared → Prop} {a : Addr} {c : Nat} {h' : Heap} {t' : Nat} (I : Inv X pins σ H s) (he : IsEnum h' (s.heap.objs.size + 1) s.heap.objs.size (c : Int) .none) (hit : h'.IsListIter s.heap.objs.size a 0)
    (hk : ∀ b o, s.heap.get? b = some o → h'.get? b = some o) (q : R (Ite X.K a c) H) : wpAny (model X.prog X.w) X.A (pyIter (.ref (s.heap.objs.size + 1))) (PIE X pins σ (.Tuple elts x1 tp) R) E { s with heap := h', toks := t' } := by
  refine wpAny_pyIter_enum he ⟨s.heap.objs.size + 1, [s.heap.objs.size + 1, s.heap.objs.size], _, _, H, rfl, I.kept hk, turn_enum a _ _ c (Nat.succ_ne_self _), ⟨⟨.none, by rw [Nat.zero_add]; exact he⟩, hit⟩, fun b hb => ?_, q⟩
  have h1 : s.heap.objs.size ≤ b := by
    rcases List.mem_cons.mp hb with z | z
    · rw [z]; exact Nat.le_succ _
    · rw [List.mem_singleton.mp z]; exact Nat.le_refl _
  exact I.fpOk h1 (I.hok.fresh h1)
theorem pi_enum {l : Expr} {ta : TA} {p pos : Pos} (hg : Gl X "enumerate") (hm : X.mg "enumerate" = none) (ha : PA X [l] ta) (hs : starEach [l] X.env = [(false, eval l X.env)] := by rfl) : PI X (.Tuple elts x1 tp) (.Call (.Name "enumerate" p) [l] [] pos) (iEnum X.K 0 ta) := by
  intro pins s σ H R I h
  refine Call_ (ld_blt I hg hm boot_enumerate (PyProof.Rows.callWith_type1 (thn (ha pos pins s σ H _ I h) fun us s1 ⟨vs, H1, I1, r1, q1⟩ => ?_) hs rfl))
  obtain ⟨a, e, ⟨xs, hq⟩, q⟩ := q1
  subst e
  obtain ⟨u, rfl, ru⟩ := vals1 r1
  cases ru
  obtain ⟨its, rv, pl, hz⟩ := I1.list hq
  exact call_enumerate_list pl.isList fun h' he hit _ hk => enum_it (t' := s1.toks) I1 he hit hk q
end
theorem for_enum {K : PySem.W.Frag} {a : Addr} {c : Nat} {xs : List V} {g : TG} {tb : TS} {D : Ends} {σ : St} {H : Hp} (Pv : Nat → St → Hp → Prop) (h0 : Pv 0 σ H) (hl : ∀ i σ H, i ≤ xs.length → Pv i σ H → SqL K H a xs)
    (hs : ∀ i x σ H p, xs[i]? = some x → Pv i σ H → H p = none → g (.ref p) σ (upd H p (.tup [.int ((i + c : Nat) : Int), x])) fun σ2 H2 => tb { D with nx := Pv (i + 1), ct := Pv (i + 1), bk := D.nx } σ2 H2) (hd : ∀ σ H, Pv xs.length σ H → D.nx σ H) :
    ∃ W : Nat → Nat → St → Hp → Prop, (∃ m, W 0 m σ H) ∧ ∀ i m σ H, W i m σ H →
      ((Ite K a c).stop i H ∧ D.nx σ H) ∨ ((Ite K a c).go i H ∧ ∃ N : St → Hp → Prop, (∀ σ' H', N σ' H' → ∃ m', m' < m ∧ W (i + 1) m' σ' H') ∧ ∀ x H', (Ite K a c).yld i H x H' → g x σ H' fun σ2 H2 => tb { D with nx := N, ct := N, bk := D.nx } σ2 H2) := by
  refine ⟨fun i m σ H => m = xs.length - i ∧ i ≤ xs.length ∧ Pv i σ H, ⟨xs.length, by simp, Nat.zero_le _, h0⟩, ?_⟩
  rintro i m σ H ⟨rfl, hi, p⟩
  have q := hl i σ H hi p
  by_cases hlt : i < xs.length
  · refine .inr ⟨⟨xs, xs[i], q, by simp [hlt]⟩, Pv (i + 1), fun σ' H' p' => ⟨xs.length - (i + 1), by omega, rfl, hlt, p'⟩, fun x H' y => ?_⟩
    obtain ⟨b, e, nb, y⟩ := y
    subst e
    rw [y xs xs[i] q (by simp [hlt])]
    exact hs i _ σ H b (by simp [hlt]) p nb
  · have e : i = xs.length := by omega
    subst e
    exact .inl ⟨⟨xs, q, Nat.le_refl _⟩, hd σ H p⟩
def CNx (n : Nat) (G : Nat → List V) (Sg : Nat → St → Hp → Prop) (i : Nat) (acc : List V) (σ : St) (H : Hp) : Prop := ∃ m, m < n - i ∧ m = n - (i + 1) ∧ i + 1 ≤ n ∧ acc = G (i + 1) ∧ Sg (i + 1) σ H
theorem cnx {n : Nat} {G : Nat → List V} {Sg : Nat → St → Hp → Prop} {i : Nat} {acc : List V} {σ : St} {H : Hp} (h : i < n) (e : acc = G (i + 1)) (q : Sg (i + 1) σ H) : CNx n G Sg i acc σ H := ⟨n - (i + 1), by omega, rfl, h, e, q⟩
section
variable {K : PySem.W.Frag} {a : Addr} {c : Nat} {xs : List V} {g : TG} {tc : TT} {te : TE} {σ0 : St} {H0 : Hp} {Q : VK} {n : Nat} {lo : Int}
theorem comp_list (G : Nat → List V) (Sg : Nat → St → Hp → Prop) (hz : xs.length ≤ sizeLine) (hG : ∀ i, i ≤ xs.length → (G i).length ≤ i) (g0 : G 0 = []) (s0 : Sg 0 σ0 H0) (hl : ∀ i σ H, Sg i σ H → SqL K H a xs)
    (hs : ∀ i x σ H, xs[i]? = some x → i < xs.length → Sg i σ H → g x σ H fun σ2 H2 => tc σ2 H2 fun b H3 => if b = true then te σ2 H3 fun y H4 => CNx xs.length G Sg i (G i ++ [y]) σ2 H4 else CNx xs.length G Sg i (G i) σ2 H3)
    (fin : ∀ σ H p, Sg xs.length σ H → H p = none → Q (.ref p) (upd H p (.lst (G xs.length)))) : tCompW g tc te (Itl K a) σ0 H0 Q := by
  refine ⟨fun i m acc σ H' => m = xs.length - i ∧ i ≤ xs.length ∧ acc = G i ∧ Sg i σ H', ⟨xs.length, by simp, Nat.zero_le _, g0.symm, s0⟩, ?_⟩
  rintro i m acc σ H ⟨rfl, hi, rfl, hS⟩
  have q := hl i σ H hS
  by_cases hlt : i < xs.length
  · refine .inr ⟨⟨xs, xs[i], q, by simp [hlt]⟩, by have := hG i hi; omega, fun x H1 y => ?_⟩
    obtain ⟨e, y⟩ := y
    subst e
    exact hs i x σ _ (y xs q) hlt hS
  · have e : i = xs.length := by omega
    subst e
    exact .inl ⟨⟨xs, q, Nat.le_refl _⟩, fun p hp => fin σ H p hS hp⟩
theorem comp_range (G : Nat → List V) (Sg : Nat → St → Hp → Prop) (hz : n ≤ sizeLine) (hG : ∀ i, i ≤ n → (G i).length ≤ i) (g0 : G 0 = []) (s0 : Sg 0 σ0 H0)
    (hs : ∀ i σ H, i < n → Sg i σ H → g (.int (lo + i)) σ H fun σ2 H2 => tc σ2 H2 fun b H3 => if b = true then te σ2 H3 fun y H4 => CNx n G Sg i (G i ++ [y]) σ2 H4 else CNx n G Sg i (G i) σ2 H3)
    (fin : ∀ σ H p, Sg n σ H → H p = none → Q (.ref p) (upd H p (.lst (G n)))) : tCompW g tc te (Itr lo n) σ0 H0 Q := by
  refine ⟨fun i m acc σ H' => m = n - i ∧ i ≤ n ∧ acc = G i ∧ Sg i σ H', ⟨n, by simp, Nat.zero_le _, g0.symm, s0⟩, ?_⟩
  rintro i m acc σ H ⟨rfl, hi, rfl, hS⟩
  by_cases hlt : i < n
  · refine .inr ⟨hlt, by have := hG i hi; omega, fun x H1 y => ?_⟩
    obtain ⟨e, y⟩ := y
    subst e y
    exact hs i σ _ hlt hS
  · have e : i = n := by omega
    subst e
    exact .inl ⟨Nat.le_refl _, fun p hp => fin σ H p hS hp⟩
theorem comp_enum (G : Nat → List V) (Sg : Nat → St → Hp → Prop) (hz : xs.length ≤ sizeLine) (hG : ∀ i, i ≤ xs.length → (G i).length ≤ i) (g0 : G 0 = []) (s0 : Sg 0 σ0 H0) (hl : ∀ i σ H, Sg i σ H → SqL K H a xs)
    (hs : ∀ i x σ H b, xs[i]? = some x → i < xs.length → Sg i σ H → H b = none → g (.ref b) σ (upd H b (.tup [.int ((i + c : Nat) : Int), x])) fun σ2 H2 => tc σ2 H2 fun b H3 => if b = true then te σ2 H3 fun y H4 => CNx xs.length G Sg i (G i ++ [y]) σ2 H4 else CNx xs.length G Sg i (G i) σ2 H3)
    (fin : ∀ σ H p, Sg xs.length σ H → H p = none → Q (.ref p) (upd H p (.lst (G xs.length)))) : tCompW g tc te (Ite K a c) σ0 H0 Q := by
  refine ⟨fun i m acc σ H' => m = xs.length - i ∧ i ≤ xs.length ∧ acc = G i ∧ Sg i σ H', ⟨xs.length, by simp, Nat.zero_le _, g0.symm, s0⟩, ?_⟩
  rintro i m acc σ H ⟨rfl, hi, rfl, hS⟩
  have q := hl i σ H hS
  by_cases hlt : i < xs.length
  · refine .inr ⟨⟨xs, xs[i], q, by simp [hlt]⟩, by have := hG i hi; omega, fun x H1 y => ?_⟩
    obtain ⟨b, e, nb, y⟩ := y
    subst e
    rw [y xs xs[i] q (by simp [hlt])]
    exact hs i _ σ H b (by simp [hlt]) hlt hS nb
  · have e : i = xs.length := by omega
    subst e
    exact .inl ⟨⟨xs, q, Nat.le_refl _⟩, fun p hp => fin σ H p hS hp⟩
end
end L2
namespace L2
open PySem PyProof.Rows
open PySem.AutoSeq1 (wpAny_loadPart')
theorem ck_enumT (a v : Value) : checkTypeCall "enumerate" ⟨[a], [(Str.ofString "start", v)]⟩ = pure () := by kernel_rfl
theorem ck_enumN (a v : Value) : checkBuiltinCall "enumerate.__new__" ⟨[.type "enumerate", a], [(Str.ofString "start", v)]⟩ = pure () := by kernel_rfl
theorem ck_init (o a v : Value) : argsOk "object.__init__" ⟨[o, a], [(Str.ofString "start", v)]⟩ := by unfold argsOk; kernel_rfl
theorem enum_new {prog : Program} {w : World} {A : Around} {R : Result → Shared → Prop} {s : Shared} {l : Addr} {items : Array Value} {n : Nat} {dct : Option Addr} {sl : Array (Option Value)} {t : Tok}
    (hl : s.heap.get? l = some { cls := .type "list", dict := dct, data := .seq items n, slots := sl })
    (h : R (.ok (.ret (.ref (s.heap.push { cls := .type "list_iterator", data := .fields #[.ref l, .int 0 0] }).objs.size)))
        { s with heap := (s.heap.push { cls := .type "list_iterator", data := .fields #[.ref l, .int 0 0] }).push { cls := .type "enumerate", data := .fields #[.none, .bool false, .ref s.heap.objs.size, rawInt 1, .none, .none] } }) :
    wpAny (model prog w) A (Builtin.«enumerate.__new__» ⟨[.type "enumerate", .ref l], [(Str.ofString "start", .int 1 t)]⟩) (fun fin s' => ∃ v, fin = .done (.ret v) ∧ R (.ok (.ret v)) s') (fun e s' => R (.error e) s') s := by
  obtain ⟨hp, g, d, tk, os⟩ := s
  have hsub := sub_enumerate
  have hL : Heap.IsList (Shared.heap ⟨hp, g, d, tk, os⟩) l items := ⟨_, hl, rfl, n, rfl⟩
  wp_walk using wpAny_loadPart' hl
  refine wpAny_stack_any fun st => wpAny_pure ?_
  split
  · rename_i k _ _ _ _ _
    cases (k == Value.type "enumerate")
    · wp_walk using wpAny_loadPart' hl, wpAny_pyIter_list hL
      exact ⟨_, rfl, h⟩
    · wp_walk using wpAny_loadPart' hl, wpAny_pyIter_list hL
      exact ⟨_, rfl, h⟩
  · wp_walk using wpAny_loadPart' hl, wpAny_pyIter_list hL
    exact ⟨_, rfl, h⟩
theorem init_enum {prog : Program} {w : World} {A : Around} {R : Result → Shared → Prop} {s : Shared} {o a v : Value} (hT : s.TypeIs o "enumerate") (hq : R (.ok (.ret .none)) s) :
    wpAny (model prog w) A (Builtin.«object.__init__» ⟨[o, a], [(Str.ofString "start", v)]⟩) (fun fin s' => ∃ v, fin = .done (.ret v) ∧ R (.ok (.ret v)) s') (fun e s' => R (.error e) s') s := by
  have hl := F.called_enumerate.init.lookup
  have hm := F.called_enumerate.made
  have hne : (some "enumerate.__new__" != some "object.__new__") = true := by decide
  repeat (any_goals (first | assumption | wp_step))
  exact ⟨_, rfl, hq⟩
theorem call_enum1 {prog : Program} {w : World} {A : Around} {E : Value → Shared → Prop} {s : Shared} {l : Addr} {items : Array Value} {t : Tok} {Q : Value → Shared → Prop} (hL : s.heap.IsList l items)
    (h : ∀ h', IsEnum h' (s.heap.objs.size + 1) s.heap.objs.size 1 .none → h'.IsListIter s.heap.objs.size l 0 → (∀ b o, s.heap.get? b = some o → h'.get? b = some o) → Q (.ref (s.heap.objs.size + 1)) { s with heap := h' }) :
    wpAny (model prog w) A (call (.type "enumerate") [.ref l] [(Str.ofString "start", .int 1 t)]) Q E s := by
  obtain ⟨⟨c, dct, dt, sl⟩, hl, hc, n, hd⟩ := hL
  replace hc : c = .type "list" := hc
  replace hd : dt = .seq items n := hd
  subst hc hd
  have ft := F.called_enumerate
  obtain ⟨c, tl, hmro⟩ := ft.mro
  have hmade := ft.made
  have hsub := ft.sub
  refine wpAny_call (codeAny_of_tree ?_)
  show wpAny _ _ (callAny (.type "enumerate") _) _ _ _
  refine wpAny_pure ⟨Code.quiet_builtin _ (by decide +kernel), codeAny_builtin F.entry_type_call ?_⟩
  rw [Around.under_plain (weight_type_call_type "enumerate" [.ref l] [(Str.ofString "start", .int 1 t)]) (units_type_call_type "enumerate" [.ref l] [(Str.ofString "start", .int 1 t)])]
  have h1 := ft.notType
  have h2 := ft.canCreate
  have h3 := ck_enumT (.ref l) (.int 1 t)
  repeat (any_goals (first | assumption | wp_step))
  refine codeAny_call_builtin ft.plain F.entry_enumerate_new (wpAny_of_eq (ck_enumN (.ref l) (.int 1 t)) (wpAny_mono (enum_new (R := fun r s1 => match r with
      | .ok (.ret v) => v = .ref (s.heap.objs.size + 1) ∧ ∃ h', s1 = { s with heap := h' } ∧ IsEnum h' (s.heap.objs.size + 1) s.heap.objs.size 1 .none ∧ h'.IsListIter s.heap.objs.size l 0 ∧ (∀ b o, s.heap.get? b = some o → h'.get? b = some o)
      | _ => False) hl ?_) (fun fin s1 hf => ?_) fun _ _ z => z.elim))
  · have hz : (s.heap.push { cls := .type "list_iterator", data := .fields #[.ref l, .int 0 0] }).objs.size = s.heap.objs.size + 1 := Heap.size_push ..
    have he : IsEnum ((s.heap.push { cls := .type "list_iterator", data := .fields #[.ref l, .int 0 0] }).push { cls := .type "enumerate", data := .fields #[.none, .bool false, .ref s.heap.objs.size, rawInt 1, .none, .none] }) (s.heap.objs.size + 1) s.heap.objs.size 1 .none := by
      have := Heap.get?_push_size (s.heap.push { cls := .type "list_iterator", data := .fields #[.ref l, .int 0 0] }) (o := { cls := .type "enumerate", data := .fields #[.none, .bool false, .ref s.heap.objs.size, rawInt 1, .none, .none] }) rfl
      rw [hz] at this
      exact this
    exact ⟨by rw [hz], _, rfl, he, ⟨_, Heap.get?_push_of_some _ (Heap.get?_push_size _ rfl), rfl, rfl⟩, fun b o x => Heap.get?_push_of_some _ (Heap.get?_push_of_some _ x)⟩
  obtain ⟨v, rfl, rfl, h', rfl, he, hit, hk⟩ := hf
  have hT : Shared.TypeIs { s with heap := h' } (.ref (s.heap.objs.size + 1)) "enumerate" := ⟨_, he, rfl⟩
  have hli := ft.init.lookup
  have hbi := ft.init.bind (.ref (s.heap.objs.size + 1))
  dsimp only
  repeat (any_goals (first | assumption | wp_step))
  refine codeAny_call_builtin ft.init.plain F.entry_object_init (ft.init.check _ _ _ _ _ _ _ _ hT (ck_init _ _ _) (wpAny_mono (init_enum (R := fun r s2 => match r with
      | .ok (.ret v) => v = .none ∧ s2 = { s with heap := h' }
      | _ => False) hT ⟨rfl, rfl⟩) (fun fin s2 hf => ?_) fun _ _ z => z.elim))
  obtain ⟨v, rfl, rfl, rfl⟩ := hf
  dsimp only
  repeat (any_goals (first | assumption | wp_step))
  exact h h' he hit hk
theorem callWith_tyK {M : Model} {A : Around} {E : Value → Shared → Prop} {s : Shared} {pos : Pos} {T : String} {x : Sem Value} {kws : List (Option Str × Sem Value)} {Q : Value → Shared → Prop} (hall : kws.all (·.1.isSome) = true) (hno : kws.any (·.1.isNone) = false)
    (h : wpAny M A (spliced [(false, x)]) (fun vs s1 => wpAny M A (evalAll (kws.map (·.2))) (fun ks s2 => wpAny M A (call (.type T) vs ((kws.filterMap (·.1)).zip ks)) Q E s2) E s1) E s) : wpAny M A (callWith pos (.type T) [] [(false, x)] kws) Q E s := by
  unfold callWith
  have e : wpAny M A (evalArgs (.type T) true [(false, x)] kws) (fun a s1 => wpAny M A (call (.type T) ([] ++ a.pos) a.kw) Q E s1) E s := by
    unfold evalArgs
    show wpAny M A (spliced [(false, x)] >>= _) _ E s
    refine wpAny_bind (wpAny_mono h (fun vs s1 h1 => wpAny_holding ?_) fun _ _ z => z)
    rw [if_pos hall]
    exact wpAny_bind (wpAny_mono h1 (fun ks s2 h2 => wpAny_bind (wpAny_pure (wpAny_pure h2))) fun _ _ z => z)
  refine wpAny_bind (wpAny_holding (wpAny_mono e (fun a s1 h1 => wpAny_bind (wpAny_standAt ?_)) fun _ _ z => z))
  simp only [List.any_cons, List.any_nil, hno, Bool.or_false]
  refine wpAny_bind (wpAny_pure ?_)
  exact wpAny_bind (wpAny_mono h1 (fun r s2 hr => wpAny_bind (wpAny_holding (wpAny_point (wpAny_pure hr)))) fun _ _ z => z)
section
variable {X : Cx} {elts : List Expr} {x1 : Nat} {tp : Pos}
theorem pi_enum1 {l : Expr} {ta : TA} {p pos kp kpos : Pos} {j : Nat} (hg : Gl X "enumerate") (hm : X.mg "enumerate" = none) (ha : PA X [l] ta) (hs : starEach [l] X.env = [(false, eval l X.env)] := by rfl) :
    PI X (.Tuple elts x1 tp) (.Call (.Name "enumerate" p) [l] [⟨some "start", .Constant (.int 1) j kp, kpos⟩] pos) (iEnum X.K 1 ta) := by
  intro pins s σ H R I h
  refine wpAny_Call_Name_kw (ld_blt I hg hm boot_enumerate ?_)
  have sp := ha pos pins s σ H _ I h
  have eb : backTo pos (starEach [l] X.env) = [(false, (do let v ← eval l X.env; standAt pos; pure v))] ∨ backTo pos (starEach [l] X.env) = [(false, eval l X.env)] := by
    rw [hs]
    first | exact .inr rfl | exact .inl rfl
  have hkw : PK X [⟨some "start", .Constant (.int 1) j kp, kpos⟩] (tCons (tC (.int 1)) tNil) := pk_cons pe_int pk_nil
  have fin : ∀ us s1, AP X pins σ (fun vs H1 => ∃ a, vs = [.ref a] ∧ (∃ xs, SqL X.K H1 a xs) ∧ R (Ite X.K a 1) H1) us s1 → wpAny (model X.prog X.w) X.A (evalAll ((backToKw pos (keywordEach [⟨some "start", .Constant (.int 1) j kp, kpos⟩] X.env)).map (·.2)))
      (fun ks s2 => wpAny (model X.prog X.w) X.A (call (.type "enumerate") us (((backToKw pos (keywordEach [⟨some "start", .Constant (.int 1) j kp, kpos⟩] X.env)).filterMap (·.1)).zip ks)) (fun v s3 => wpAny (model X.prog X.w) X.A (pyIter v) (PIE X pins σ (.Tuple elts x1 tp) R) X.xe s3) X.xe s2) X.xe s1 := fun us s1 ⟨vs, H1, I1, r1, a, e, ⟨xs, hq⟩, q⟩ => by
    subst e
    obtain ⟨u, rfl, ru⟩ := vals1 r1
    cases ru
    refine thn (hkw pos pins s1 σ H1 (fun zs H2 => zs = [.int 1] ∧ H2 = H1) I1 ⟨rfl, rfl⟩) fun ks s2 ⟨zs, H2, I2, rz, ez, eH⟩ => ?_
    subst ez eH
    obtain ⟨w', rfl, t, rfl⟩ := vals1 rz
    obtain ⟨its, rv, pl, hz⟩ := I2.list hq
    exact call_enum1 pl.isList fun h' he hit hk => enum_it (t' := s2.toks) I2 he hit hk q
  rcases eb with eb | eb
  · rw [eb] at sp ⊢
    exact callWith_tyK rfl rfl (thn sp fin)
  · rw [eb] at sp ⊢
    exact callWith_tyK rfl rfl (thn sp fin)
end
end L2
namespace Pk
def it (nx : Nat → Nat) : Nat → Nat → Nat
  | 0, w => w
  | k + 1, w => it nx k (nx w)
theorem it_succ (nx : Nat → Nat) : ∀ (k w : Nat), it nx (k + 1) w = nx (it nx k w)
  | 0, _ => rfl
  | k + 1, w => by
    show it nx (k + 1) (nx w) = nx (it nx k (nx w))
    exact it_succ nx k (nx w)
theorem it_add (nx : Nat → Nat) : ∀ (j k w : Nat), it nx (j + k) w = it nx j (it nx k w)
  | 0, k, w => by rw [Nat.zero_add]; rfl
  | j + 1, k, w => by
    rw [show j + 1 + k = (j + k) + 1 by omega, it_succ, it_succ, it_add nx j k w]
theorem it_street : ∀ (k w : Nat), it (· + 1) k w = w + k
  | 0, _ => rfl
  | k + 1, w => by
    show it (· + 1) k (w + 1) = w + (k + 1)
    rw [it_street k (w + 1)]; omega
structure Fst (nx : Nat → Nat) (D : Nat → Option Nat) (w m : Nat) : Prop where
  out : D (it nx m w) = none
  ins : ∀ j, j < m → (D (it nx j w)).isSome = true
def Good (nx : Nat → Nat) (D : Nat → Option Nat) : Prop :=
  ∀ p n, D p = some n → ∃ k, 1 ≤ k ∧ n = it nx k p ∧ ∀ j, j < k → (D (it nx j p)).isSome = true
theorem Good.none {nx : Nat → Nat} : Good nx (fun _ => none) := fun _ _ h => by cases h
theorem Fst.within {nx : Nat → Nat} {D : Nat → Option Nat} {w m a k : Nat} (F : Fst nx D w m) (ha : a ≤ m) (h : ∀ j, j < k → (D (it nx j (it nx a w))).isSome = true) : a + k ≤ m := by
  apply Nat.le_of_not_lt
  intro hlt
  have h1 := h (m - a) (by omega)
  rw [← it_add, show m - a + a = m by omega, F.out] at h1
  cases h1
def put (D : Nat → Option Nat) (p n : Nat) : Nat → Option Nat := fun q => if q = p then some n else D q
theorem put_some {D : Nat → Option Nat} {p n : Nat} (h : (D p).isSome = true) (q : Nat) : (put D p n q).isSome = (D q).isSome := by
  unfold put
  by_cases e : q = p
  · rw [if_pos e, e, h]; rfl
  · rw [if_neg e]
theorem put_none {D : Nat → Option Nat} {p n : Nat} (h : (D p).isSome = true) (q : Nat) : put D p n q = none ↔ D q = none := by
  have := put_some (n := n) h q
  rw [← Option.isNone_iff_eq_none, ← Option.isNone_iff_eq_none]
  cases h1 : put D p n q <;> cases h2 : D q <;> simp [h1, h2] at this ⊢
theorem turn {nx : Nat → Nat} {D : Nat → Option Nat} {w m a p n : Nat} (G : Good nx D) (F : Fst nx D w m) (ha : a ≤ m) (hp : p = it nx a w) (hn : D p = some n) :
    ∃ a', a < a' ∧ a' ≤ m ∧ (D n).getD n = it nx a' w ∧ Good nx (put D p ((D n).getD n)) ∧ Fst nx (put D p ((D n).getD n)) w m ∧ ∀ q, put D p ((D n).getD n) q = none ↔ D q = none := by
  obtain ⟨k, hk, rfl, hh⟩ := G p n hn
  have hsome : (D p).isSome = true := by rw [hn]; rfl
  have main : ∃ k', k ≤ k' ∧ (D (it nx k p)).getD (it nx k p) = it nx k' p ∧ ∀ j, j < k' → (D (it nx j p)).isSome = true := by
    cases e : D (it nx k p) with
    | none => exact ⟨k, Nat.le_refl _, rfl, hh⟩
    | some n' =>
      obtain ⟨k2, hk2, rfl, hh2⟩ := G _ _ e
      refine ⟨k2 + k, by omega, (it_add nx k2 k p).symm, fun j hj => ?_⟩
      by_cases hjk : j < k
      · exact hh j hjk
      · have := hh2 (j - k) (by omega)
        rw [← it_add, show j - k + k = j by omega] at this
        exact this
  obtain ⟨k', hkk, e', hh'⟩ := main
  rw [e']
  subst hp
  have hle : a + k' ≤ m := F.within ha hh'
  refine ⟨k' + a, by omega, by omega, (it_add nx k' a w).symm, ?_, ?_, put_none hsome⟩
  · intro q v hq
    unfold put at hq
    by_cases e : q = it nx a w
    · rw [if_pos e] at hq
      cases hq
      subst e
      exact ⟨k', by omega, rfl, fun j hj => by rw [put_some hsome]; exact hh' j hj⟩
    · rw [if_neg e] at hq
      obtain ⟨k3, h1, h2, h3⟩ := G q v hq
      exact ⟨k3, h1, h2, fun j hj => by rw [put_some hsome]; exact h3 j hj⟩
  · refine ⟨(put_none hsome _).mpr F.out, fun j hj => ?_⟩
    rw [put_some hsome]
    exact F.ins j hj
theorem Good.more {nx : Nat → Nat} {D : Nat → Option Nat} {p : Nat} (G : Good nx D) (h : D p = Option.none) : Good nx (put D p (nx p)) := by
  have mono : ∀ q, (D q).isSome = true → (put D p (nx p) q).isSome = true := fun q hq => by
    unfold put
    by_cases e : q = p
    · rw [if_pos e]; rfl
    · rw [if_neg e]; exact hq
  intro q v hq
  by_cases e : q = p
  · subst e
    unfold put at hq
    rw [if_pos rfl] at hq
    cases hq
    refine ⟨1, Nat.le_refl _, rfl, fun j hj => ?_⟩
    obtain rfl : j = 0 := by omega
    show (put D q (nx q) q).isSome = true
    unfold put
    rw [if_pos rfl]; rfl
  · unfold put at hq
    rw [if_neg e] at hq
    obtain ⟨k, h1, h2, h3⟩ := G q v hq
    exact ⟨k, h1, h2, fun j hj => mono _ (h3 j hj)⟩
theorem Fst.uniq {nx : Nat → Nat} {D : Nat → Option Nat} {w m m' : Nat} (a : Fst nx D w m) (b : Fst nx D w m') : m = m' := by
  rcases Nat.lt_trichotomy m m' with h | h | h
  · have := b.ins m h; rw [a.out] at this; cases this
  · exact h
  · have := a.ins m' h; rw [b.out] at this; cases this
end Pk
namespace Pk
theorem nodup_len : ∀ {A B : List Nat}, A.Nodup → (∀ x ∈ A, x ∈ B) → A.length ≤ B.length
  | [], _, _, _ => Nat.zero_le _
  | a :: A, B, hn, hs => by
    obtain ⟨h1, h2⟩ := List.nodup_cons.mp hn
    have hb : a ∈ B := hs a (List.mem_cons.mpr (.inl rfl))
    have := nodup_len (A := A) (B := B.erase a) h2 fun x hx => by
      have hxa : x ≠ a := fun e => h1 (e ▸ hx)
      exact (List.mem_erase_of_ne hxa).mpr (hs x (List.mem_cons.mpr (.inr hx)))
    rw [List.length_erase_of_mem hb] at this
    have : 0 < B.length := List.length_pos_of_mem hb
    simp only [List.length_cons]
    omega
theorem few {fs : List Nat} {p n : Nat} (hn : fs.Nodup) (h : ∀ q ∈ fs, p ≤ q ∧ q < p + n) : fs.length ≤ n := by
  have := nodup_len (A := fs) (B := List.range' p n) hn fun x hx => List.mem_range'_1.mpr (h x hx)
  rw [List.length_range'] at this
  exact this
structure IsFF (T : List Nat) (P w q : Nat) : Prop where
  le : w ≤ q
  mid : ∀ p, w ≤ p → p < q → p < P ∧ p ∈ T
  fin : q < P → q ∉ T
theorem IsFF.uniq {T : List Nat} {P w q r : Nat} (a : IsFF T P w q) (b : IsFF T P w r) : q = r := by
  rcases Nat.lt_trichotomy q r with h | h | h
  · obtain ⟨h1, h2⟩ := b.mid q a.le h
    exact absurd h2 (a.fin h1)
  · exact h
  · obtain ⟨h1, h2⟩ := a.mid r b.le h
    exact absurd h2 (b.fin h1)
def ffuel (T : List Nat) (P : Nat) : Nat → Nat → Nat
  | 0, w => w
  | k + 1, w => if w < P ∧ w ∈ T then ffuel T P k (w + 1) else w
theorem ffuel_is {T : List Nat} {P : Nat} : ∀ (k w : Nat), P ≤ w + k → IsFF T P w (ffuel T P k w)
  | 0, w, h => ⟨Nat.le_refl _, fun p a b => absurd b (Nat.not_lt.mpr a), fun c => absurd c (Nat.not_lt.mpr h)⟩
  | k + 1, w, h => by
    unfold ffuel
    by_cases c : w < P ∧ w ∈ T
    · rw [if_pos c]
      have i := ffuel_is (T := T) (P := P) k (w + 1) (by omega)
      refine ⟨Nat.le_trans (Nat.le_succ _) i.le, fun p a b => ?_, i.fin⟩
      by_cases e : p = w
      · exact e ▸ c
      · exact i.mid p (by omega) b
    · rw [if_neg c]
      exact ⟨Nat.le_refl _, fun p a b => absurd b (Nat.not_lt.mpr a), fun d e => c ⟨d, e⟩⟩
def ff (T : List Nat) (P w : Nat) : Nat := ffuel T P (P - w) w
theorem ff_is (T : List Nat) (P w : Nat) : IsFF T P w (ff T P w) := ffuel_is _ _ (by omega)
def whs (P : Nat) : List Nat → List Nat → List Nat
  | fs, [] => fs
  | fs, w :: ws => whs P (fs ++ [ff fs P w]) ws
theorem whs_snoc (P : Nat) (w : Nat) : ∀ (ws fs : List Nat), whs P fs (ws ++ [w]) = whs P fs ws ++ [ff (whs P fs ws) P w]
  | [], _ => rfl
  | _ :: ws, fs => whs_snoc P w ws _
theorem whs_len (P : Nat) : ∀ (ws fs : List Nat), (whs P fs ws).length = fs.length + ws.length
  | [], _ => rfl
  | w :: ws, fs => by
    show (whs P _ ws).length = _
    rw [whs_len P ws, List.length_append, List.length_cons, List.length_cons, List.length_nil]; omega
abbrev wh (P : Nat) (ws : List Nat) : List Nat := whs P [] ws
theorem wh_len (P : Nat) (ws : List Nat) : (wh P ws).length = ws.length := by rw [whs_len]; simp
structure Run (P : Nat) (L : List (Nat × Nat)) : Prop where
  lt : ∀ x ∈ L, x.1 < P
  le : ∀ x ∈ L, x.1 ≤ x.2 ∧ x.2 ≤ P
  mid : ∀ x ∈ L, ∀ q, x.1 ≤ q → q < x.2 → q ∈ L.map (·.2)
  nd : ((L.map (·.2)).filter fun q => decide (q < P)).Nodup
theorem Run.nil {P : Nat} : Run P [] := ⟨fun _ h => (by cases h), fun _ h => (by cases h), fun _ h => (by cases h), List.nodup_nil⟩
theorem Run.snoc {P w q : Nat} {L : List (Nat × Nat)} (R : Run P L) (hw : w < P) (F : IsFF (L.map (·.2)) P w q) : Run P (L ++ [(w, q)]) := by
  have hq : q ≤ P := by
    apply Nat.le_of_not_lt
    intro c
    have := (F.mid P (Nat.le_of_lt hw) c).1
    omega
  refine ⟨fun x hx => ?_, fun x hx => ?_, fun x hx r h1 h2 => ?_, ?_⟩
  · rcases List.mem_append.mp hx with h | h
    · exact R.lt x h
    · rw [List.mem_singleton.mp h]; exact hw
  · rcases List.mem_append.mp hx with h | h
    · exact R.le x h
    · rw [List.mem_singleton.mp h]; exact ⟨F.le, hq⟩
  · rw [List.map_append]
    refine List.mem_append.mpr (.inl ?_)
    rcases List.mem_append.mp hx with h | h
    · exact R.mid x h r h1 h2
    · rw [List.mem_singleton.mp h] at h1 h2
      exact (F.mid r h1 h2).2
  · rw [List.map_append, List.filter_append]
    by_cases c : q < P
    · have e : (List.map (fun x : Nat × Nat => x.2) [(w, q)]).filter (fun q => decide (q < P)) = [q] := by simp [c]
      rw [e]
      refine List.nodup_append.mpr ⟨R.nd, by simp, fun a ha b hb => ?_⟩
      rw [List.mem_singleton.mp hb]
      intro e
      subst e
      exact F.fin c (List.mem_filter.mp ha).1
    · have e : (List.map (fun x : Nat × Nat => x.2) [(w, q)]).filter (fun q => decide (q < P)) = [] := by simp [c]
      rw [e, List.append_nil]
      exact R.nd
theorem zip_snoc {α β : Type} : ∀ {a : List α} {b : List β} {x : α} {y : β}, a.length = b.length → (a ++ [x]).zip (b ++ [y]) = a.zip b ++ [(x, y)]
  | [], [], _, _, _ => rfl
  | [], _ :: _, _, _, h => by simp at h
  | _ :: _, [], _, _, h => by simp at h
  | a :: l, b :: r, x, y, h => by
    show (a, b) :: _ = (a, b) :: _
    rw [show List.zipWith Prod.mk (l.append [x]) (r.append [y]) = (l ++ [x]).zip (r ++ [y]) from rfl, zip_snoc (by simpa using h)]
    rfl
theorem snd_zip {a b : List Nat} (h : a.length = b.length) : (a.zip b).map (·.2) = b := by
  have := List.map_snd_zip (l₁ := a) (l₂ := b) (by omega)
  simpa using this
theorem fst_zip {a b : List Nat} (h : a.length = b.length) : (a.zip b).map (·.1) = a := by
  have := List.map_fst_zip (l₁ := a) (l₂ := b) (by omega)
  simpa using this
theorem rev_ind {α : Type} {p : List α → Prop} (h0 : p []) (hs : ∀ l a, p l → p (l ++ [a])) (l : List α) : p l := by
  have : ∀ r : List α, p r.reverse := fun r => by
    induction r with
    | nil => exact h0
    | cons a r ih => rw [List.reverse_cons]; exact hs _ _ ih
  have := this l.reverse
  rwa [List.reverse_reverse] at this
def cnt (ws : List Nat) (p : Nat) : Nat := ws.countP fun w => decide (p ≤ w)
theorem Run.low {P p hi : Nat} {L : List (Nat × Nat)} (R : Run P L) (h3 : p = 0 ∨ p - 1 ∉ L.map (·.2)) : ∀ x ∈ L, p ≤ x.2 → p ≤ x.1 := fun x hx h => by
  apply Nat.le_of_not_lt
  intro c
  rcases h3 with h3 | h3
  · omega
  · exact h3 (R.mid x hx (p - 1) (by omega) (by omega))
theorem Run.nocrowd {P p : Nat} {L : List (Nat × Nat)} (R : Run P L) (hp : p < P) (h : P < p + cnt (L.map (·.1)) p) : ∃ x ∈ L, x.2 = P := by
  apply Classical.byContradiction
  intro no
  have all : ∀ x ∈ L, x.2 < P := fun x hx => by
    have := (R.le x hx).2
    have : x.2 ≠ P := fun e => no ⟨x, hx, e⟩
    omega
  have k : cnt (L.map (·.1)) p ≤ ((L.map (·.2)).filter fun q => decide (q < P)).countP (fun q => decide (p ≤ q)) := by
    unfold cnt
    rw [List.filter_eq_self.mpr fun q hq => by
      obtain ⟨x, hx, e⟩ := List.mem_map.mp hq
      exact decide_eq_true (e ▸ all x hx)]
    rw [List.countP_map, List.countP_map]
    refine List.countP_mono_left fun x hx h => ?_
    have h : p ≤ x.1 := of_decide_eq_true h
    have := (R.le x hx).1
    exact decide_eq_true (show p ≤ x.2 by omega)
  have f := few (fs := ((L.map (·.2)).filter fun q => decide (q < P)).filter fun q => decide (p ≤ q)) (p := p) (n := P - p) (R.nd.filter _) fun q hq => by
    obtain ⟨a, b⟩ := List.mem_filter.mp hq
    have b := of_decide_eq_true b
    have a := of_decide_eq_true (List.mem_filter.mp a).2
    omega
  rw [← List.countP_eq_length_filter] at f
  omega
theorem cnt_perm {a b : List Nat} (h : a.Perm b) (p : Nat) : cnt a p = cnt b p := h.countP_eq _
theorem fall_cnt_ge {s : List Nat} (hs : s.Pairwise (fun a b => b ≤ a)) {i w : Nat} (h : s[i]? = some w) : i + 1 ≤ cnt s w := by
  unfold cnt
  obtain ⟨hi, hw⟩ := List.getElem?_eq_some_iff.mp h
  have e : s = s.take (i + 1) ++ s.drop (i + 1) := (List.take_append_drop _ _).symm
  have k : (s.take (i + 1)).countP (fun x => decide (w ≤ x)) = i + 1 := by
    rw [List.countP_eq_length.mpr, List.length_take]
    · omega
    · intro a ha
      obtain ⟨j, hj, e⟩ := List.mem_iff_getElem.mp ha
      rw [List.length_take] at hj
      rw [List.getElem_take] at e
      subst e
      subst hw
      refine decide_eq_true ?_
      by_cases c : j = i
      · subst c; exact Nat.le_refl _
      · exact List.pairwise_iff_getElem.mp hs j i (by omega) hi (by omega)
  rw [e, List.countP_append, k]
  omega
theorem fall_at {s : List Nat} (hs : s.Pairwise (fun a b => b ≤ a)) {p : Nat} (hp : 0 < cnt s p) : ∃ w, s[cnt s p - 1]? = some w ∧ p ≤ w := by
  have hlt : cnt s p ≤ s.length := List.countP_le_length
  have hi : cnt s p - 1 < s.length := by omega
  refine ⟨s[cnt s p - 1], List.getElem?_eq_getElem hi, ?_⟩
  apply Nat.le_of_not_lt
  intro c
  have e : s = s.take (cnt s p - 1) ++ s.drop (cnt s p - 1) := (List.take_append_drop _ _).symm
  have z : (s.drop (cnt s p - 1)).countP (fun x => decide (p ≤ x)) = 0 := by
    refine List.countP_eq_zero.mpr fun a ha => ?_
    obtain ⟨j, hj, e⟩ := List.mem_iff_getElem.mp ha
    rw [List.getElem_drop] at e
    rw [List.length_drop] at hj
    have : a ≤ s[cnt s p - 1] := by
      subst e
      by_cases c : j = 0
      · subst c; exact Nat.le_refl _
      · exact List.pairwise_iff_getElem.mp hs _ _ (by omega) (by omega) (by omega)
    simp only [decide_eq_true_eq]
    omega
  have : cnt s p ≤ cnt s p - 1 := by
    conv => lhs; unfold cnt; rw [e, List.countP_append, z]
    refine Nat.le_trans List.countP_le_length ?_
    rw [List.length_take]
    omega
  omega
theorem fall_none {s : List Nat} {P : Nat} (hs : s.Pairwise (fun a b => b ≤ a)) (h : ∀ i w, s[i]? = some w → i + 1 + w ≤ P) : ∀ p ∈ s, ¬ P < p + cnt s p := fun p hp c => by
  have pos : 0 < cnt s p := List.countP_pos_iff.mpr ⟨p, hp, decide_eq_true (Nat.le_refl _)⟩
  obtain ⟨w, hw, hpw⟩ := fall_at hs pos
  have := h _ _ hw
  omega
end Pk
namespace Pk
def nxr (N : Nat) (q : Nat) : Nat := (q + 1) % N
theorem it_ring {N : Nat} (hN : 0 < N) : ∀ (m w : Nat), w < N → it (nxr N) m w = (w + m) % N
  | 0, w, h => (Nat.mod_eq_of_lt h).symm
  | m + 1, w, h => by
    rw [it_succ, it_ring hN m w h]
    unfold nxr
    rw [Nat.add_mod, Nat.mod_mod, ← Nat.add_mod]
    rfl
structure IsRF (T : List Nat) (N w q : Nat) : Prop where
  ex : ∃ m, q = it (nxr N) m w ∧ ∀ j, j < m → it (nxr N) j w ∈ T
  fin : q ∉ T
theorem IsRF.uniq {T : List Nat} {N w q r : Nat} (a : IsRF T N w q) (b : IsRF T N w r) : q = r := by
  obtain ⟨m, rfl, hm⟩ := a.ex
  obtain ⟨k, rfl, hk⟩ := b.ex
  rcases Nat.lt_trichotomy m k with h | h | h
  · exact absurd (hk m h) a.fin
  · rw [h]
  · exact absurd (hm k h) b.fin
def rfuel (T : List Nat) (N : Nat) : Nat → Nat → Nat
  | 0, w => w
  | k + 1, w => if w ∈ T then rfuel T N k (nxr N w) else w
theorem rfuel_is {T : List Nat} {N : Nat} : ∀ (k w m : Nat), m ≤ k → it (nxr N) m w ∉ T → (∀ j, j < m → it (nxr N) j w ∈ T) → rfuel T N k w = it (nxr N) m w
  | 0, w, m, h, _, _ => by
    obtain rfl : m = 0 := by omega
    rfl
  | k + 1, w, m, h, h1, h2 => by
    unfold rfuel
    cases m with
    | zero => rw [if_neg (show ¬ w ∈ T from h1)]; rfl
    | succ m =>
      rw [if_pos (show w ∈ T from h2 0 (by omega))]
      exact rfuel_is k (nxr N w) m (by omega) h1 fun j hj => h2 (j + 1) (by omega)
def rf (T : List Nat) (N w : Nat) : Nat := rfuel T N N w
theorem ahead {T : List Nat} {N w : Nat} (hT : T.length < N) (hw : w < N) : ∃ m, m < N ∧ it (nxr N) m w ∉ T ∧ ∀ j, j < m → it (nxr N) j w ∈ T := by
  have hN : 0 < N := by omega
  have some : ∃ m, m < N ∧ it (nxr N) m w ∉ T := by
    apply Classical.byContradiction
    intro no
    have := nodup_len (A := List.range N) (B := T) List.nodup_range fun q hq => by
      have hq := List.mem_range.mp hq
      apply Classical.byContradiction
      intro nq
      refine no ⟨(q + N - w) % N, Nat.mod_lt _ hN, ?_⟩
      rw [it_ring hN _ _ hw, Nat.add_mod, Nat.mod_mod, ← Nat.add_mod, show w + (q + N - w) = q + N by omega, Nat.add_mod_right, Nat.mod_eq_of_lt hq]
      exact nq
    rw [List.length_range] at this
    omega
  obtain ⟨m, hm, hn⟩ := some
  have least : ∀ n, it (nxr N) n w ∉ T → ∃ m, m ≤ n ∧ it (nxr N) m w ∉ T ∧ ∀ j, j < m → it (nxr N) j w ∈ T := fun n => by
    induction n using Nat.strongRecOn with
    | ind n ih =>
      intro hn
      by_cases c : ∃ j, j < n ∧ it (nxr N) j w ∉ T
      · obtain ⟨j, hj, hj2⟩ := c
        obtain ⟨m, h1, h2, h3⟩ := ih j hj hj2
        exact ⟨m, by omega, h2, h3⟩
      · exact ⟨n, Nat.le_refl _, hn, fun j hj => Classical.byContradiction fun z => c ⟨j, hj, z⟩⟩
  obtain ⟨m', h1, h2, h3⟩ := least m hn
  exact ⟨m', by omega, h2, h3⟩
theorem rf_is {T : List Nat} {N w : Nat} (hT : T.length < N) (hw : w < N) : IsRF T N w (rf T N w) := by
  obtain ⟨m, h1, h2, h3⟩ := ahead hT hw
  have e : rf T N w = it (nxr N) m w := rfuel_is N w m (by omega) h2 h3
  rw [e]
  exact ⟨⟨m, rfl, h3⟩, h2⟩
theorem rf_lt {T : List Nat} {N w : Nat} (hT : T.length < N) (hw : w < N) : rf T N w < N := by
  obtain ⟨m, e, _⟩ := (rf_is hT hw).ex
  rw [e, it_ring (by omega) _ _ hw]
  exact Nat.mod_lt _ (by omega)
def rwhs (N : Nat) : List Nat → List Nat → List Nat
  | fs, [] => fs
  | fs, w :: ws => rwhs N (fs ++ [rf fs N w]) ws
theorem rwhs_snoc (N w : Nat) : ∀ (ws fs : List Nat), rwhs N fs (ws ++ [w]) = rwhs N fs ws ++ [rf (rwhs N fs ws) N w]
  | [], _ => rfl
  | _ :: ws, fs => rwhs_snoc N w ws _
theorem rwhs_len (N : Nat) : ∀ (ws fs : List Nat), (rwhs N fs ws).length = fs.length + ws.length
  | [], _ => rfl
  | w :: ws, fs => by
    show (rwhs N _ ws).length = _
    rw [rwhs_len N ws, List.length_append, List.length_cons, List.length_cons, List.length_nil]; omega
abbrev rwh (N : Nat) (ws : List Nat) : List Nat := rwhs N [] ws
theorem rwh_len (N : Nat) (ws : List Nat) : (rwh N ws).length = ws.length := by rw [rwhs_len]; simp
structure Ring (N : Nat) (L : List (Nat × Nat)) : Prop where
  lt : ∀ x ∈ L, x.1 < N ∧ x.2 < N
  way : ∀ x ∈ L, ∃ m, x.2 = it (nxr N) m x.1 ∧ ∀ j, j < m → it (nxr N) j x.1 ∈ L.map (·.2)
  nd : (L.map (·.2)).Nodup
theorem Ring.nil {N : Nat} : Ring N [] := ⟨fun _ h => (by cases h), fun _ h => (by cases h), List.nodup_nil⟩
theorem Ring.snoc {N w q : Nat} {L : List (Nat × Nat)} (R : Ring N L) (hw : w < N) (hq : q < N) (F : IsRF (L.map (·.2)) N w q) : Ring N (L ++ [(w, q)]) := by
  refine ⟨fun x hx => ?_, fun x hx => ?_, ?_⟩
  · rcases List.mem_append.mp hx with h | h
    · exact R.lt x h
    · rw [List.mem_singleton.mp h]; exact ⟨hw, hq⟩
  · rw [List.map_append]
    rcases List.mem_append.mp hx with h | h
    · obtain ⟨m, e, hm⟩ := R.way x h
      exact ⟨m, e, fun j hj => List.mem_append.mpr (.inl (hm j hj))⟩
    · rw [List.mem_singleton.mp h]
      obtain ⟨m, e, hm⟩ := F.ex
      exact ⟨m, e, fun j hj => List.mem_append.mpr (.inl (hm j hj))⟩
  · rw [List.map_append]
    refine List.nodup_append.mpr ⟨R.nd, by simp, fun a ha b hb => ?_⟩
    have : b = q := by simpa using hb
    rw [this]
    intro e
    exact F.fin (e ▸ ha)
theorem ring_wh {N : Nat} {ws : List Nat} (h : ∀ w ∈ ws, w < N) (hl : ws.length ≤ N) : Ring N (ws.zip (rwh N ws)) := by
  revert h hl
  refine rev_ind (p := fun ws => (∀ w ∈ ws, w < N) → ws.length ≤ N → Ring N (ws.zip (rwh N ws))) (fun _ _ => Ring.nil) (fun l a ih h hl => ?_) ws
  rw [List.length_append, List.length_singleton] at hl
  have R := ih (fun w hw => h w (List.mem_append.mpr (.inl hw))) (by omega)
  have e : rwh N (l ++ [a]) = rwh N l ++ [rf (rwh N l) N a] := rwhs_snoc N a l []
  have ha : a < N := h a (by simp)
  have hlen : (rwh N l).length < N := by rw [rwh_len]; omega
  rw [e, zip_snoc (rwh_len N l).symm]
  refine R.snoc ha (rf_lt hlen ha) ?_
  rw [snd_zip (rwh_len N l).symm]
  exact rf_is hlen ha
def below (ws : List Nat) (k : Nat) : Nat := ws.countP fun w => decide (w < k)
def FullL (n : Nat) (ws : List Nat) : Prop := ws.length = n ∧ ∀ k, k ≤ n → k ≤ below ws k
theorem below_cnt (ws : List Nat) (k : Nat) : below ws k + cnt ws k = ws.length := by
  unfold below cnt
  induction ws with
  | nil => rfl
  | cons w ws ih =>
    rw [List.countP_cons, List.countP_cons, List.length_cons]
    by_cases h : w < k
    · rw [if_pos (decide_eq_true h), if_neg (by simp; omega)]; omega
    · rw [if_neg (by simpa using h), if_pos (decide_eq_true (by omega))]; omega
theorem FullL.lt {n : Nat} {ws : List Nat} (h : FullL n ws) : ∀ w ∈ ws, w < n := fun w hw => by
  have h1 := h.2 n (Nat.le_refl _)
  have h2 := below_cnt ws n
  have h3 := h.1
  have z : cnt ws n = 0 := by omega
  unfold cnt at z
  have := List.countP_eq_zero.mp z w hw
  simp at this
  exact this
theorem FullL.nocrowd {n : Nat} {ws : List Nat} (h : FullL n ws) : ∀ w ∈ ws, ¬ n < w + cnt ws w := fun w hw c => by
  have h0 := h.lt w hw
  have h1 := h.2 w (by omega)
  have h2 := below_cnt ws w
  have h3 := h.1
  omega
theorem full_of {n : Nat} {ws : List Nat} (hl : ws.length = n) (hn : ∀ w ∈ ws, ¬ n < w + cnt ws w) : FullL n ws := by
  refine ⟨hl, fun k hk => ?_⟩
  apply Nat.le_of_not_lt
  intro c
  have up : ∀ d, ∀ k, n - k = d → k ≤ n → below ws k < k → False := fun d => by
    induction d with
    | zero =>
      intro k hd hk hb
      have h1 := below_cnt ws k
      have pos : 0 < cnt ws k := by omega
      obtain ⟨w, hw, hkw⟩ := List.countP_pos_iff.mp pos
      have hkw : k ≤ w := of_decide_eq_true hkw
      have := hn w hw
      have one : 0 < cnt ws w := List.countP_pos_iff.mpr ⟨w, hw, decide_eq_true (Nat.le_refl _)⟩
      omega
    | succ d ih =>
      intro k hd hk hb
      by_cases hm : k ∈ ws
      · have h1 := below_cnt ws k
        have := hn k hm
        omega
      · have e : below ws (k + 1) = below ws k := by
          unfold below
          refine List.countP_congr fun w hw => ?_
          have : w ≠ k := fun z => hm (z ▸ hw)
          simp only [decide_eq_true_eq]
          omega
        exact ih (k + 1) (by omega) (by omega) (by omega)
  exact up _ k rfl hk c
def turnW (N t : Nat) (ws : List Nat) : List Nat := ws.map fun w => (w + t) % N
theorem turn_len (N t : Nat) (ws : List Nat) : (turnW N t ws).length = ws.length := List.length_map ..
theorem below_turn (N t : Nat) (ws : List Nat) (k : Nat) : below (turnW N t ws) k = ws.countP fun w => decide ((w + t) % N < k) := by
  unfold below turnW
  rw [List.countP_map]
  rfl
theorem free_one {N : Nat} {fs : List Nat} (hn : fs.Nodup) (hlt : ∀ q ∈ fs, q < N) (hl : fs.length + 1 = N) : ∃ e, e < N ∧ e ∉ fs ∧ ∀ q, q < N → q ≠ e → q ∈ fs := by
  have some : ∃ e, e < N ∧ e ∉ fs := by
    apply Classical.byContradiction
    intro no
    have := nodup_len (A := List.range N) (B := fs) List.nodup_range fun q hq => Classical.byContradiction fun z => no ⟨q, List.mem_range.mp hq, z⟩
    rw [List.length_range] at this
    omega
  obtain ⟨e, he, hn'⟩ := some
  refine ⟨e, he, hn', fun q hq hne => Classical.byContradiction fun z => ?_⟩
  have := nodup_len (A := e :: q :: fs) (B := List.range N) (List.nodup_cons.mpr ⟨fun y => (List.mem_cons.mp y).elim (fun y => hne y.symm) hn', List.nodup_cons.mpr ⟨z, hn⟩⟩) fun x hx => by
    rcases List.mem_cons.mp hx with y | y
    · rw [y]; exact List.mem_range.mpr he
    · rcases List.mem_cons.mp y with y | y
      · rw [y]; exact List.mem_range.mpr hq
      · exact List.mem_range.mpr (hlt x y)
  rw [List.length_range, List.length_cons, List.length_cons] at this
  omega
theorem nodup_map {f : Nat → Nat} : ∀ {l : List Nat}, (∀ a ∈ l, ∀ b ∈ l, f a = f b → a = b) → l.Nodup → (l.map f).Nodup
  | [], _, _ => List.nodup_nil
  | a :: l, h, hn => by
    obtain ⟨h1, h2⟩ := List.nodup_cons.mp hn
    rw [List.map_cons]
    refine List.nodup_cons.mpr ⟨fun m => ?_, nodup_map (fun x hx y hy => h x (List.mem_cons_of_mem _ hx) y (List.mem_cons_of_mem _ hy)) h2⟩
    obtain ⟨b, hb, e⟩ := List.mem_map.mp m
    exact h1 (h b (List.mem_cons_of_mem _ hb) a List.mem_cons_self e ▸ hb)
theorem sum_range (n : Nat) : 2 * (List.range n).sum = n * (n - 1) := by
  induction n with
  | zero => rfl
  | succ n ih =>
    rw [List.range_succ, List.sum_append, Nat.mul_add, ih]
    simp only [List.sum_cons, List.sum_nil, Nat.add_zero, Nat.add_sub_cancel]
    cases n with
    | zero => rfl
    | succ n =>
      rw [Nat.add_sub_cancel, Nat.mul_comm 2, ← Nat.mul_add, Nat.mul_comm]
theorem sum_free {N e : Nat} {fs : List Nat} (hn : fs.Nodup) (he : e < N) (hne : e ∉ fs) (hlt : ∀ q ∈ fs, q < N) (hall : ∀ q, q < N → q ≠ e → q ∈ fs) : fs.sum + e = (List.range N).sum := by
  have p : (e :: fs).Perm (List.range N) := by
    refine (List.perm_ext_iff_of_nodup (List.nodup_cons.mpr ⟨hne, hn⟩) List.nodup_range).mpr fun q => ?_
    rw [List.mem_cons, List.mem_range]
    constructor
    · rintro (z | z)
      · rw [z]; exact he
      · exact hlt q z
    · intro z
      by_cases c : q = e
      · exact .inl c
      · exact .inr (hall q z c)
  have := p.sum_nat
  rw [List.sum_cons] at this
  omega
theorem ring_full {n e : Nat} {L : List (Nat × Nat)} (R : Ring (n + 1) L) (hl : L.length = n) (he : e < n + 1) (hne : e ∉ L.map (·.2)) : FullL n (turnW (n + 1) (n - e) (L.map (·.1))) := by
  have hN : 0 < n + 1 := by omega
  refine ⟨by rw [turn_len, List.length_map, hl], fun k hk => ?_⟩
  have g : ∀ q, q < n + 1 → q ≠ e → ((q + (n - e)) % (n + 1)) < n ∧ (nxr (n + 1) q + (n - e)) % (n + 1) = (q + (n - e)) % (n + 1) + 1 := fun q hq hqe => by
    have h1 : (q + (n - e)) % (n + 1) < n := by
      by_cases c : q + (n - e) < n + 1
      · rw [Nat.mod_eq_of_lt c]; omega
      · rw [Nat.mod_eq_sub_mod (by omega), Nat.mod_eq_of_lt (by omega)]; omega
    refine ⟨h1, ?_⟩
    unfold nxr
    rw [Nat.add_mod, Nat.mod_mod, ← Nat.add_mod, show q + 1 + (n - e) = (q + (n - e)) + 1 by omega, Nat.add_mod, Nat.mod_eq_of_lt (show 1 < n + 1 by omega)]
    exact Nat.mod_eq_of_lt (by omega)
  have go : ∀ x ∈ L, (x.1 + (n - e)) % (n + 1) ≤ (x.2 + (n - e)) % (n + 1) := fun x hx => by
    obtain ⟨m, em, hm⟩ := R.way x hx
    have := (R.lt x hx).1
    have walk : ∀ j, j ≤ m → it (nxr (n + 1)) j x.1 < n + 1 ∧ (it (nxr (n + 1)) j x.1 + (n - e)) % (n + 1) = (x.1 + (n - e)) % (n + 1) + j := fun j => by
      induction j with
      | zero => intro _; exact ⟨this, rfl⟩
      | succ j ih =>
        intro hj
        obtain ⟨i1, i2⟩ := ih (by omega)
        have ne : it (nxr (n + 1)) j x.1 ≠ e := fun z => hne (z ▸ hm j (by omega))
        obtain ⟨g1, g2⟩ := g _ i1 ne
        rw [it_succ]
        refine ⟨Nat.mod_lt _ hN, ?_⟩
        rw [g2, i2]
        omega
    have := (walk m (Nat.le_refl _)).2
    rw [em, this]
    omega
  rw [below_turn, List.countP_map]
  have cm : L.countP (fun x => decide ((x.2 + (n - e)) % (n + 1) < k)) ≤ L.countP ((fun w => decide ((w + (n - e)) % (n + 1) < k)) ∘ fun x => x.1) := List.countP_mono_left fun x hx h => by
    have h := of_decide_eq_true h
    have := go x hx
    exact decide_eq_true (show (x.1 + (n - e)) % (n + 1) < k by omega)
  refine Nat.le_trans ?_ cm
  have nd : (turnW (n + 1) (n - e) (L.map (·.2))).Nodup := by
    unfold turnW
    refine nodup_map ?_ R.nd
    intro a ha b hb eab
    obtain ⟨x, hx, ex⟩ := List.mem_map.mp ha
    obtain ⟨y, hy, ey⟩ := List.mem_map.mp hb
    have ha2 : a < n + 1 := ex ▸ (R.lt x hx).2
    have hb2 : b < n + 1 := ey ▸ (R.lt y hy).2
    have q1 : ∀ c, c < n + 1 → ((c + (n - e)) % (n + 1) + (e + 1)) % (n + 1) = c := fun c hc => by
      rw [Nat.add_mod, Nat.mod_mod, ← Nat.add_mod, show c + (n - e) + (e + 1) = c + (n + 1) by omega, Nat.add_mod_right, Nat.mod_eq_of_lt hc]
    rw [← q1 a ha2, ← q1 b hb2, eab]
  have ltn : ∀ q ∈ turnW (n + 1) (n - e) (L.map (·.2)), q < n := fun q hq => by
    unfold turnW at hq
    obtain ⟨f, hf, rfl⟩ := List.mem_map.mp hq
    obtain ⟨x, hx, ex⟩ := List.mem_map.mp hf
    have hf2 : f < n + 1 := ex ▸ (R.lt x hx).2
    exact (g f hf2 fun z => hne (z ▸ hf)).1
  have all : ∀ q, q < n → q ∈ turnW (n + 1) (n - e) (L.map (·.2)) := fun q hq => by
    apply Classical.byContradiction
    intro nq
    have := nodup_len (A := q :: turnW (n + 1) (n - e) (L.map (·.2))) (B := List.range n) (List.nodup_cons.mpr ⟨nq, nd⟩) fun x hx => by
      rcases List.mem_cons.mp hx with y | y
      · rw [y]; exact List.mem_range.mpr hq
      · exact List.mem_range.mpr (ltn x y)
    rw [List.length_range, List.length_cons, turn_len, List.length_map, hl] at this
    omega
  have cnt2 : k ≤ below (turnW (n + 1) (n - e) (L.map (·.2))) k := by
    unfold below
    have := nodup_len (A := List.range k) (B := (turnW (n + 1) (n - e) (L.map (·.2))).filter fun w => decide (w < k)) List.nodup_range fun x hx => by
      have hx := List.mem_range.mp hx
      exact List.mem_filter.mpr ⟨all x (by omega), decide_eq_true hx⟩
    rw [List.length_range] at this
    rw [List.countP_eq_length_filter]
    exact this
  rw [below_turn, List.countP_map] at cnt2
  exact cnt2
end Pk
namespace Pk
def hgt (ws : List Nat) (k : Nat) : Int := ((below ws (k + 1) : Nat) : Int) - ((k : Int) + 1)
structure FirstLow (n : Nat) (ws : List Nat) (e : Nat) : Prop where
  lt : e < n + 1
  le : ∀ k, k < n + 1 → hgt ws e ≤ hgt ws k
  fst : ∀ k, k < e → hgt ws e < hgt ws k
theorem below_all {N : Nat} {ws : List Nat} (h : ∀ w ∈ ws, w < N) : below ws N = ws.length := by
  unfold below
  exact List.countP_eq_length.mpr fun w hw => decide_eq_true (h w hw)
structure Low (ws : List Nat) (i : Nat) (least : Int) (e : Nat) : Prop where
  neg : least ≤ 0
  le : ∀ k, k < i → least ≤ hgt ws k
  at_ : (least = 0 ∧ e = 0) ∨ (e < i ∧ hgt ws e = least ∧ least < 0 ∧ ∀ k, k < e → least < hgt ws k)
theorem Low.start (ws : List Nat) : Low ws 0 0 0 := ⟨Int.le_refl _, fun _ h => absurd h (Nat.not_lt_zero _), .inl ⟨rfl, rfl⟩⟩
theorem Low.stay {ws : List Nat} {i e : Nat} {least : Int} (L : Low ws i least e) (h : ¬ hgt ws i < least) : Low ws (i + 1) least e := by
  refine ⟨L.neg, fun k hk => ?_, ?_⟩
  · by_cases c : k = i
    · rw [c]; omega
    · exact L.le k (by omega)
  · rcases L.at_ with z | ⟨z1, z2⟩
    · exact .inl z
    · exact .inr ⟨by omega, z2⟩
theorem Low.first {ws : List Nat} {n e : Nat} {least : Int} (L : Low ws (n + 1) least e) (hl : ws.length = n) (h : ∀ w ∈ ws, w < n + 1) : FirstLow n ws e := by
  have hn : hgt ws n = -1 := by
    unfold hgt
    rw [below_all h, hl]
    omega
  have h1 := L.le n (by omega)
  rcases L.at_ with ⟨z, _⟩ | ⟨z1, z2, z3, z4⟩
  · omega
  · exact ⟨z1, fun k hk => by rw [z2]; exact L.le k hk, fun k hk => by rw [z2]; exact z4 k hk⟩
theorem below_succ (ws : List Nat) (k : Nat) : below ws (k + 1) = below ws k + ws.count k := by
  unfold below List.count
  induction ws with
  | nil => rfl
  | cons w ws ih =>
    rw [List.countP_cons, List.countP_cons, List.countP_cons, ih]
    by_cases c : w = k
    · rw [if_pos (decide_eq_true (show w < k + 1 by omega)), if_neg (by simp; omega), if_pos (by simp [c])]
      omega
    · rw [if_neg (show ¬ (w == k) = true by simpa using c)]
      by_cases d : w < k
      · rw [if_pos (decide_eq_true (show w < k + 1 by omega)), if_pos (decide_eq_true d)]
        omega
      · rw [if_neg (by simp; omega), if_neg (by simpa using d)]
        omega
theorem below_zero (ws : List Nat) : below ws 0 = 0 := by
  unfold below
  exact List.countP_eq_zero.mpr fun w _ => by simp
def hb (ws : List Nat) (i : Nat) : Int := ((below ws i : Nat) : Int) - (i : Int)
end Pk
namespace Pk
def tk (P : Nat) (ws : List Nat) : List Nat := (wh P ws).filter fun q => decide (q < P)
end Pk
namespace Pk
structure Wk where
  ok : Bool
  h : Nat
  b : Nat
  p : Nat
  ws : List Nat
  hs : List Nat
  ds : List Nat
def stp (s : Wk) (c : Nat) : Wk :=
  if s.ok = true then
    if c = 117 then { s with h := s.h + 1, ws := s.ws ++ [s.p], hs := s.hs ++ [s.h + 1] }
    else if c = 100 ∧ 0 < s.h then { s with h := s.h - 1, b := s.b + (s.h - 1), p := s.p + 1, hs := s.hs ++ [s.h - 1], ds := s.ds ++ [s.h - 1] }
    else { s with ok := false }
  else s
def wk0 : Wk := ⟨true, 0, 0, 0, [], [], []⟩
def wk (t : List Nat) : Wk := t.foldl stp wk0
theorem wk_snoc (t : List Nat) (c : Nat) : wk (t ++ [c]) = stp (wk t) c := by
  unfold wk
  rw [List.foldl_append]
  rfl
theorem stp_up {s : Wk} (h : s.ok = true) : stp s 117 = { s with h := s.h + 1, ws := s.ws ++ [s.p], hs := s.hs ++ [s.h + 1] } := by
  unfold stp
  rw [if_pos h, if_pos rfl]
theorem stp_down {s : Wk} (h : s.ok = true) (hh : 0 < s.h) : stp s 100 = { s with h := s.h - 1, b := s.b + (s.h - 1), p := s.p + 1, hs := s.hs ++ [s.h - 1], ds := s.ds ++ [s.h - 1] } := by
  unfold stp
  rw [if_pos h, if_neg (by decide), if_pos ⟨rfl, hh⟩]
theorem stp_bad {s : Wk} {c : Nat} (h1 : c ≠ 117) (h2 : ¬ (c = 100 ∧ 0 < s.h)) : (stp s c).ok = false := by
  unfold stp
  by_cases h : s.ok = true
  · rw [if_pos h, if_neg h1, if_neg h2]
  · rw [if_neg h]
    simpa using h
theorem stp_ok {s : Wk} {c : Nat} (h : (stp s c).ok = true) : s.ok = true := by
  unfold stp at h
  by_cases e : s.ok = true
  · exact e
  · rw [if_neg e] at h
    exact h
theorem wk_ok_of {a : List Nat} : ∀ (b : List Nat), (wk (a ++ b)).ok = true → (wk a).ok = true := by
  intro b
  induction b using rev_ind with
  | h0 => intro h; rw [List.append_nil] at h; exact h
  | hs l c ih =>
    intro h
    rw [← List.append_assoc, wk_snoc] at h
    exact ih (stp_ok h)
theorem wk_take_ok {t : List Nat} {i : Nat} (h : (wk t).ok = true) : (wk (t.take i)).ok = true := by
  rw [← List.take_append_drop i t] at h
  exact wk_ok_of _ h
theorem wk_bad {t : List Nat} {i : Nat} (h : (wk (t.take i)).ok = false) : (wk t).ok = false := by
  cases e : (wk t).ok with
  | false => rfl
  | true =>
    rw [wk_take_ok e] at h
    cases h
theorem take_snoc {α : Type} {t : List α} {i : Nat} {c : α} (h : t[i]? = some c) : t.take (i + 1) = t.take i ++ [c] := by
  rw [List.take_add_one, h]
  rfl
structure Wok (t : List Nat) (s : Wk) : Prop where
  hp : s.h + s.p = s.ws.length
  le : ∀ w ∈ s.ws, w ≤ s.p
  top : s.ws.count s.p ≤ s.h
  bel : ∀ k, k ≤ s.p → k ≤ below s.ws k
  hl : s.hs.length = t.length
  bs : s.b = s.ds.sum
  tx : t = ((List.range s.p).map fun q => List.replicate (s.ws.count q) 117 ++ [100]).flatten ++ List.replicate (s.ws.count s.p) 117
  ris : s.ws = ((List.range (s.p + 1)).map fun q => List.replicate (s.ws.count q) q).flatten
theorem below_snoc (ws : List Nat) (p k : Nat) : below (ws ++ [p]) k = below ws k + if p < k then 1 else 0 := by
  unfold below
  rw [List.countP_append, List.countP_singleton]
  simp only [decide_eq_true_eq]
theorem below_len {ws : List Nat} {p : Nat} (h : ∀ w ∈ ws, w ≤ p) : below ws (p + 1) = ws.length := by
  unfold below
  rw [List.countP_eq_length]
  intro w hw
  have := h w hw
  simp
  omega
theorem count_snoc (ws : List Nat) (p q : Nat) : (ws ++ [p]).count q = ws.count q + if p = q then 1 else 0 := by
  rw [List.count_append]
  by_cases e : p = q
  · subst e; simp
  · simp [e]
theorem map_range_eq {α : Type} {f g : Nat → α} {n : Nat} (h : ∀ q, q < n → f q = g q) : (List.range n).map f = (List.range n).map g := by
  refine List.map_congr_left fun q hq => h q (List.mem_range.mp hq)
theorem wok {t : List Nat} : (wk t).ok = true → Wok t (wk t) := by
  induction t using rev_ind with
  | h0 => intro _; exact ⟨rfl, (fun _ h => nomatch h), Nat.le_refl _, (fun k hk => by have : k = 0 := Nat.le_zero.mp hk; subst this; exact Nat.zero_le _), rfl, rfl, rfl, rfl⟩
  | hs t c ih =>
    intro h
    rw [wk_snoc] at h ⊢
    have ok := stp_ok h
    have I := ih ok
    by_cases c1 : c = 117
    · subst c1
      rw [stp_up ok]
      have cp : ((wk t).ws ++ [(wk t).p]).count (wk t).p = (wk t).ws.count (wk t).p + 1 := by rw [count_snoc, if_pos rfl]
      have cq : ∀ q, q < (wk t).p → ((wk t).ws ++ [(wk t).p]).count q = (wk t).ws.count q := fun q hq => by rw [count_snoc, if_neg (by omega)]; omega
      refine ⟨?_, fun w hw => ?_, ?_, fun k hk => ?_, ?_, I.bs, ?_, ?_⟩
      · show (wk t).h + 1 + (wk t).p = ((wk t).ws ++ [(wk t).p]).length
        rw [List.length_append, List.length_singleton, ← I.hp]; omega
      · rcases List.mem_append.mp hw with z | z
        · exact I.le w z
        · rw [List.mem_singleton.mp z]; exact Nat.le_refl _
      · show ((wk t).ws ++ [(wk t).p]).count (wk t).p ≤ (wk t).h + 1
        rw [cp]; have := I.top; omega
      · show k ≤ below ((wk t).ws ++ [(wk t).p]) k
        rw [below_snoc]
        have := I.bel k hk
        omega
      · show ((wk t).hs ++ [(wk t).h + 1]).length = (t ++ [117]).length
        rw [List.length_append, List.length_append, I.hl]; rfl
      · show t ++ [117] = ((List.range (wk t).p).map fun q => List.replicate (((wk t).ws ++ [(wk t).p]).count q) 117 ++ [100]).flatten ++ List.replicate (((wk t).ws ++ [(wk t).p]).count (wk t).p) 117
        rw [cp, List.replicate_succ', ← List.append_assoc, map_range_eq (g := fun q => List.replicate ((wk t).ws.count q) 117 ++ [100]) fun q hq => by rw [cq q hq]]
        rw [← I.tx]
      · show (wk t).ws ++ [(wk t).p] = ((List.range ((wk t).p + 1)).map fun q => List.replicate (((wk t).ws ++ [(wk t).p]).count q) q).flatten
        have r := I.ris
        rw [List.range_succ, List.map_append, List.flatten_append] at r ⊢
        rw [map_range_eq (g := fun q => List.replicate ((wk t).ws.count q) q) fun q hq => by rw [cq q hq]]
        conv => lhs; rw [r]
        simp [cp, List.replicate_succ']
    · by_cases c2 : c = 100 ∧ 0 < (wk t).h
      · obtain ⟨rfl, hh⟩ := c2
        rw [stp_down ok hh]
        have c0 : (wk t).ws.count ((wk t).p + 1) = 0 := List.count_eq_zero.mpr fun m => by have := I.le _ m; omega
        refine ⟨?_, fun w hw => ?_, ?_, fun k hk => ?_, ?_, ?_, ?_, ?_⟩
        · show (wk t).h - 1 + ((wk t).p + 1) = (wk t).ws.length
          rw [← I.hp]; omega
        · exact Nat.le_succ_of_le (I.le w hw)
        · show (wk t).ws.count ((wk t).p + 1) ≤ _
          rw [c0]; exact Nat.zero_le _
        · show k ≤ below (wk t).ws k
          have hk : k ≤ (wk t).p + 1 := hk
          by_cases e : k = (wk t).p + 1
          · rw [e, below_len I.le, ← I.hp]; omega
          · exact I.bel k (by omega)
        · show ((wk t).hs ++ [(wk t).h - 1]).length = (t ++ [100]).length
          rw [List.length_append, List.length_append, I.hl]; rfl
        · show (wk t).b + ((wk t).h - 1) = ((wk t).ds ++ [(wk t).h - 1]).sum
          rw [List.sum_append, ← I.bs]; simp
        · show t ++ [100] = ((List.range ((wk t).p + 1)).map fun q => List.replicate ((wk t).ws.count q) 117 ++ [100]).flatten ++ List.replicate ((wk t).ws.count ((wk t).p + 1)) 117
          rw [c0, List.range_succ, List.map_append, List.flatten_append]
          conv => lhs; rw [I.tx]
          simp
        · show (wk t).ws = ((List.range ((wk t).p + 1 + 1)).map fun q => List.replicate ((wk t).ws.count q) q).flatten
          rw [List.range_succ, List.map_append, List.flatten_append]
          simp only [List.map_cons, List.map_nil, c0, List.replicate_zero, List.flatten_cons, List.flatten_nil, List.append_nil]
          exact I.ris
      · rw [stp_bad c1 c2] at h
        cases h
theorem wk_hs {t : List Nat} {i : Nat} (hi : i < t.length) : (wk t).ok = true → (wk t).hs[i]? = some (wk (t.take (i + 1))).h := by
  revert hi
  induction t using rev_ind with
  | h0 => intro hi; exact absurd hi (Nat.not_lt_zero _)
  | hs t c ih =>
    intro hi h
    rw [wk_snoc] at h ⊢
    have ok := stp_ok h
    have I := wok ok
    rw [List.length_append, List.length_singleton] at hi
    by_cases e : i = t.length
    · subst e
      rw [show t.length + 1 = (t ++ [c]).length by rw [List.length_append]; rfl, List.take_length, wk_snoc]
      by_cases c1 : c = 117
      · subst c1
        rw [stp_up ok]
        show ((wk t).hs ++ [(wk t).h + 1])[t.length]? = _
        rw [← I.hl]; simp
      · by_cases c2 : c = 100 ∧ 0 < (wk t).h
        · obtain ⟨rfl, hh⟩ := c2
          rw [stp_down ok hh]
          show ((wk t).hs ++ [(wk t).h - 1])[t.length]? = _
          rw [← I.hl]; simp
        · rw [stp_bad c1 c2] at h; cases h
    · have lt : i < t.length := by omega
      rw [List.take_append_of_le_length (by omega), ← ih lt ok]
      by_cases c1 : c = 117
      · subst c1
        rw [stp_up ok]
        show ((wk t).hs ++ [(wk t).h + 1])[i]? = _
        rw [List.getElem?_append_left (by rw [I.hl]; exact lt)]
      · by_cases c2 : c = 100 ∧ 0 < (wk t).h
        · obtain ⟨rfl, hh⟩ := c2
          rw [stp_down ok hh]
          show ((wk t).hs ++ [(wk t).h - 1])[i]? = _
          rw [List.getElem?_append_left (by rw [I.hl]; exact lt)]
        · rw [stp_bad c1 c2] at h; cases h
theorem ds_len (t : List Nat) : (wk t).ds.length ≤ t.length := by
  induction t using rev_ind with
  | h0 => exact Nat.le_refl _
  | hs t c ih =>
    rw [wk_snoc, List.length_append, List.length_singleton]
    unfold stp
    split
    · split
      · exact Nat.le_succ_of_le ih
      · split
        · show ((wk t).ds ++ [_]).length ≤ _
          rw [List.length_append, List.length_singleton]
          omega
        · exact Nat.le_succ_of_le ih
    · exact Nat.le_succ_of_le ih
theorem wk_small (t : List Nat) : (wk t).h + (wk t).p ≤ t.length := by
  induction t using rev_ind with
  | h0 => exact Nat.le_refl _
  | hs t c ih =>
    rw [wk_snoc, List.length_append, List.length_singleton]
    unfold stp
    split
    · split
      · show (wk t).h + 1 + (wk t).p ≤ _
        omega
      · split
        · rename_i h
          show (wk t).h - 1 + ((wk t).p + 1) ≤ _
          have := h.2
          omega
        · show (wk t).h + (wk t).p ≤ _
          omega
    · omega
theorem wk_next {t : List Nat} {i c : Nat} (ok : (wk t).ok = true) (h : t[i]? = some c) : (c = 117 ∧ (wk (t.take (i + 1))).ds = (wk (t.take i)).ds ∧ (wk (t.take (i + 1))).p = (wk (t.take i)).p ∧ (wk (t.take (i + 1))).ws = (wk (t.take i)).ws ++ [(wk (t.take i)).p]) ∨
    (c = 100 ∧ (wk (t.take (i + 1))).ds = (wk (t.take i)).ds ++ [(wk (t.take (i + 1))).h] ∧ (wk (t.take (i + 1))).p = (wk (t.take i)).p + 1 ∧ (wk (t.take (i + 1))).ws = (wk (t.take i)).ws) := by
  have o1 := wk_take_ok (i := i) ok
  have o2 := wk_take_ok (i := i + 1) ok
  rw [take_snoc h, wk_snoc] at o2 ⊢
  by_cases c1 : c = 117
  · subst c1
    rw [stp_up o1]
    exact .inl ⟨rfl, rfl, rfl, rfl⟩
  · by_cases c2 : c = 100 ∧ 0 < (wk (t.take i)).h
    · obtain ⟨rfl, h0⟩ := c2
      rw [stp_down o1 h0]
      exact .inr ⟨rfl, rfl, rfl, rfl⟩
    · rw [stp_bad c1 c2] at o2
      cases o2
def goodP (t : List Nat) : Bool := (wk t).ok && decide ((wk t).h = 0)
theorem goodP_ok {t : List Nat} (h : goodP t = true) : (wk t).ok = true ∧ (wk t).h = 0 := by
  unfold goodP at h
  simpa using h
theorem goodP_mk {t : List Nat} (h1 : (wk t).ok = true) (h2 : (wk t).h = 0) : goodP t = true := by
  unfold goodP
  rw [h1, h2]
  rfl
theorem goodP_no {t : List Nat} (h : (wk t).ok = false ∨ 0 < (wk t).h) : goodP t = false := by
  unfold goodP
  rcases h with z | z
  · rw [z]; rfl
  · rw [decide_eq_false (by omega), Bool.and_false]
def pth (n : Nat) (ws : List Nat) : List Nat := ((List.range n).map fun q => List.replicate (ws.count q) 117 ++ [100]).flatten
end Pk
namespace Pk
def at0 (st : List Nat) (j : Nat) : Nat := st.getD j 0
theorem at0_of {st : List Nat} {j c : Nat} (h : st[j]? = some c) : at0 st j = c := by
  unfold at0
  rw [List.getD_eq_getElem?_getD, h]
  rfl
theorem at0_some {st : List Nat} {j : Nat} (h : j < st.length) : st[j]? = some (at0 st j) := by
  have : st[j]? = some st[j] := List.getElem?_eq_getElem h
  rw [this, at0_of this]
structure IsR (st : List Nat) (i L : Nat) : Prop where
  le : L ≤ i
  all : ∀ j, L ≤ j → j < i → at0 st j < at0 st i
  stop : L = 0 ∨ ¬ at0 st (L - 1) < at0 st i
theorem IsR.low {st : List Nat} {i L m : Nat} (a : IsR st i L) (hm : m ≤ i) (h : ∀ j, m ≤ j → j < i → at0 st j < at0 st i) : L ≤ m := by
  rcases a.stop with z | z
  · omega
  · by_cases c : L ≤ m
    · exact c
    · exact absurd (h (L - 1) (by omega) (by have := a.le; omega)) z
theorem IsR.uniq {st : List Nat} {i L M : Nat} (a : IsR st i L) (b : IsR st i M) : L = M := Nat.le_antisymm (a.low b.le b.all) (b.low a.le a.all)
def rdown (st : List Nat) (c : Nat) : Nat → Nat
  | 0 => 0
  | L + 1 => if at0 st L < c then rdown st c L else L + 1
def rch (st : List Nat) (i : Nat) : Nat := rdown st (at0 st i) i
theorem rdown_is {st : List Nat} {i : Nat} : ∀ L, L ≤ i → (∀ j, L ≤ j → j < i → at0 st j < at0 st i) → IsR st i (rdown st (at0 st i) L)
  | 0, h, k => ⟨h, k, .inl rfl⟩
  | L + 1, h, k => by
    unfold rdown
    by_cases c : at0 st L < at0 st i
    · rw [if_pos c]
      refine rdown_is L (by omega) fun j h1 h2 => ?_
      by_cases e : j = L
      · rw [e]; exact c
      · exact k j (by omega) h2
    · rw [if_neg c]
      exact ⟨h, k, .inr c⟩
theorem rch_is (st : List Nat) (i : Nat) : IsR st i (rch st i) := rdown_is i (Nat.le_refl _) fun j h1 h2 => absurd h2 (Nat.not_lt.mpr h1)
theorem rch_eq {st : List Nat} {i L : Nat} (h : IsR st i L) : rch st i = L := (rch_is st i).uniq h
theorem rch_le (st : List Nat) (i : Nat) : rch st i ≤ i := (rch_is st i).le
structure Stn (n : Nat) (st : List Nat) : Prop where
  len : st.length = n
  nd : st.Nodup
  lt : ∀ c ∈ st, c < n
theorem Stn.perm {n : Nat} {st : List Nat} (S : Stn n st) : st.Perm (List.range n) := by
  refine (List.perm_ext_iff_of_nodup S.nd List.nodup_range).mpr fun q => ⟨fun hq => List.mem_range.mpr (S.lt q hq), fun hq => ?_⟩
  refine Classical.byContradiction fun no => ?_
  have hq := List.mem_range.mp hq
  have len := nodup_len (A := q :: st) (B := List.range n) (List.nodup_cons.mpr ⟨no, S.nd⟩) fun x hx => by
    rcases List.mem_cons.mp hx with e | e
    · exact List.mem_range.mpr (e ▸ hq)
    · exact List.mem_range.mpr (S.lt x e)
  rw [List.length_cons, S.len, List.length_range] at len
  omega
def pos (st : List Nat) (c : Nat) : Nat := st.idxOf c
theorem Stn.pos_lt {n : Nat} {st : List Nat} (S : Stn n st) {c : Nat} (h : c < n) : pos st c < n := by
  have m : c ∈ st := S.perm.mem_iff.mpr (List.mem_range.mpr h)
  unfold pos
  rw [← S.len]
  exact List.idxOf_lt_length_of_mem m
theorem Stn.at_pos {n : Nat} {st : List Nat} (S : Stn n st) {c : Nat} (h : c < n) : st[pos st c]? = some c := by
  have l := S.pos_lt h
  rw [← S.len] at l
  have e : st[pos st c]? = some st[pos st c] := List.getElem?_eq_getElem l
  rw [e]
  exact congrArg some (List.getElem_idxOf l)
theorem Stn.pos_at {n : Nat} {st : List Nat} (S : Stn n st) {q c : Nat} (h : st[q]? = some c) : pos st c = q := by
  have hc := S.lt c (List.mem_of_getElem? h)
  have e := S.at_pos hc
  have l1 := (List.getElem?_eq_some_iff.mp h).1
  have l2 := (List.getElem?_eq_some_iff.mp e).1
  rw [List.getElem?_eq_getElem l1] at h
  rw [List.getElem?_eq_getElem l2] at e
  have := h.trans e.symm
  exact ((List.getElem_inj S.nd).mp (Option.some.inj this)).symm
theorem wh_snoc (n w : Nat) (ws : List Nat) : wh n (ws ++ [w]) = wh n ws ++ [ff (wh n ws) n w] := whs_snoc n w ws []
theorem wh_take (n : Nat) (ws : List Nat) : ∀ i, i ≤ ws.length → (wh n ws).take i = wh n (ws.take i) := by
  induction ws using rev_ind with
  | h0 => intro i hi; have : i = 0 := Nat.le_zero.mp hi; subst this; rfl
  | hs ws w ih =>
    intro i hi
    rw [List.length_append, List.length_singleton] at hi
    by_cases e : i = ws.length + 1
    · rw [e, show ws.length + 1 = (ws ++ [w]).length by simp, List.take_length, ← wh_len n (ws ++ [w]), List.take_length]
    · rw [wh_snoc, List.take_append_of_le_length (by rw [wh_len]; omega), List.take_append_of_le_length (by omega)]
      exact ih i (by omega)
def prd (l : List Int) : Int := l.foldr (· * ·) 1
theorem prd_cons (a : Int) (l : List Int) : prd (a :: l) = a * prd l := rfl
theorem prd_append (a b : List Int) : prd (a ++ b) = prd a * prd b := by
  induction a with
  | nil => show prd b = 1 * prd b; rw [Int.one_mul]
  | cons x a ih => rw [List.cons_append, prd_cons, prd_cons, ih, Int.mul_assoc]
def prs : List Int → List Int
  | a :: b :: r => a * b :: prs r
  | _ => []
theorem prs_prd : ∀ (k : Nat) (l : List Int), l.length = 2 * k → prd (prs l) = prd l
  | 0, [], _ => rfl
  | k + 1, a :: b :: r, h => by
    show a * b * prd (prs r) = a * (b * prd r)
    rw [prs_prd k r (by simp at h; omega), Int.mul_assoc]
theorem prs_len : ∀ (k : Nat) (l : List Int), l.length = 2 * k → (prs l).length = k
  | 0, [], _ => rfl
  | k + 1, a :: b :: r, h => by
    show (prs r).length + 1 = k + 1
    rw [prs_len k r (by simp at h; omega)]
theorem prs_at : ∀ (j : Nat) (l : List Int) (a b : Int), l[2 * j]? = some a → l[2 * j + 1]? = some b → (prs l)[j]? = some (a * b)
  | 0, x :: y :: r, a, b, h1, h2 => by
    have h1 : x = a := by simpa using h1
    have h2 : y = b := by simpa using h2
    subst h1 h2
    rfl
  | 0, [], a, b, h1, _ => by simp at h1
  | 0, [x], a, b, _, h2 => by simp at h2
  | j + 1, x :: y :: r, a, b, h1, h2 => by
    show (prs r)[j]? = some (a * b)
    refine prs_at j r a b ?_ ?_
    · rw [show 2 * (j + 1) = 2 * j + 1 + 1 by omega] at h1
      simpa using h1
    · rw [show 2 * (j + 1) + 1 = 2 * j + 1 + 1 + 1 by omega] at h2
      simpa using h2
  | j + 1, [], a, b, h1, _ => by simp at h1
  | j + 1, [x], a, b, h1, _ => by
    rw [show 2 * (j + 1) = 2 * j + 1 + 1 by omega] at h1
    simp at h1
theorem prd_pos : ∀ {l : List Int}, (∀ x ∈ l, 1 ≤ x) → 1 ≤ prd l
  | [], _ => Int.le_refl _
  | x :: l, h => by
    have h1 := h x List.mem_cons_self
    have h2 := prd_pos (l := l) fun y hy => h y (List.mem_cons_of_mem _ hy)
    have := Int.mul_le_mul h1 h2 (by decide) (by omega)
    rw [prd_cons]
    omega
theorem prd_mem : ∀ {l : List Int} {x : Int}, (∀ x ∈ l, 1 ≤ x) → x ∈ l → x ≤ prd l
  | y :: l, x, h, hx => by
    have h1 := h y List.mem_cons_self
    have h2 := prd_pos (l := l) fun z hz => h z (List.mem_cons_of_mem _ hz)
    rw [prd_cons]
    rcases List.mem_cons.mp hx with e | e
    · subst e
      have := Int.mul_le_mul_of_nonneg_left h2 (show 0 ≤ x by omega)
      omega
    · have h3 := prd_mem (l := l) (fun z hz => h z (List.mem_cons_of_mem _ hz)) e
      have := Int.mul_le_mul_of_nonneg_right h1 (show 0 ≤ prd l by omega)
      omega
theorem prd_le : ∀ {l : List Int}, (∀ x ∈ l, 1 ≤ x ∧ x ≤ 64) → prd l ≤ ((2 ^ (6 * l.length) : Nat) : Int)
  | [], _ => by decide
  | x :: l, h => by
    have h1 := h x List.mem_cons_self
    have h2 := prd_pos (l := l) fun y hy => (h y (List.mem_cons_of_mem _ hy)).1
    have h3 := prd_le (l := l) fun y hy => h y (List.mem_cons_of_mem _ hy)
    rw [prd_cons, List.length_cons, show 6 * (l.length + 1) = 6 * l.length + 6 by omega, Nat.pow_add, Int.natCast_mul]
    have a := Int.mul_le_mul h1.2 h3 (by omega) (by decide)
    have e : (((2 ^ 6 : Nat)) : Int) = 64 := by decide
    rw [e, Int.mul_comm (((2 ^ (6 * l.length) : Nat)) : Int)]
    exact a
theorem prd_small {l : List Int} (h : ∀ x ∈ l, 1 ≤ x ∧ x ≤ 64) (hl : l.length ≤ 64) : prd l < ((2 ^ 400 : Nat) : Int) := by
  have a := prd_le h
  have b : (2 : Nat) ^ (6 * l.length) < 2 ^ 400 := Nat.pow_lt_pow_right (by decide) (by omega)
  omega
end Pk
namespace Pk
def kidsT (ps : List Nat) (i q : Nat) : List Nat := ((List.range i).filter fun j => decide (at0 ps j = q)).map (· + 1)
def kids (ps : List Nat) (q : Nat) : List Nat := kidsT ps ps.length q
theorem kidsT_succ (ps : List Nat) (i q : Nat) : kidsT ps (i + 1) q = if at0 ps i = q then kidsT ps i q ++ [i + 1] else kidsT ps i q := by
  unfold kidsT
  rw [List.range_succ, List.filter_append, List.map_append]
  by_cases h : at0 ps i = q
  · rw [if_pos h]
    simp [h]
  · rw [if_neg h]
    simp [h]
theorem kidsT_len (ps : List Nat) (i q : Nat) : (kidsT ps i q).length ≤ i := by
  unfold kidsT
  rw [List.length_map]
  exact Nat.le_trans (List.length_filter_le _ _) (by rw [List.length_range]; exact Nat.le_refl _)
theorem mem_kids {ps : List Nat} {q c : Nat} : c ∈ kids ps q ↔ 1 ≤ c ∧ c ≤ ps.length ∧ at0 ps (c - 1) = q := by
  unfold kids kidsT
  rw [List.mem_map]
  constructor
  · rintro ⟨j, hj, rfl⟩
    obtain ⟨h1, h2⟩ := List.mem_filter.mp hj
    have := List.mem_range.mp h1
    exact ⟨by omega, by omega, by simpa using h2⟩
  · rintro ⟨h1, h2, h3⟩
    exact ⟨c - 1, List.mem_filter.mpr ⟨List.mem_range.mpr (by omega), by simpa using h3⟩, by omega⟩
theorem kids_nodup (ps : List Nat) (q : Nat) : (kids ps q).Nodup := by
  unfold kids kidsT
  exact nodup_map (fun a _ b _ e => by omega) (List.nodup_range.filter _)
def bfs (ps : List Nat) : Nat → List Nat
  | 0 => [0]
  | t + 1 => bfs ps t ++ kids ps (at0 (bfs ps t) t)
theorem at0_app {a b : List Nat} {j : Nat} (h : j < a.length) : at0 (a ++ b) j = at0 a j := by
  refine at0_of ?_
  rw [List.getElem?_append_left h]
  exact at0_some h
def goes (ps : List Nat) (t : Nat) : Prop := ∀ s, s < t → s < (bfs ps s).length
theorem bfs_mono (ps : List Nat) : ∀ (t d : Nat), ∃ r, bfs ps (t + d) = bfs ps t ++ r
  | t, 0 => ⟨[], by simp⟩
  | t, d + 1 => by
    obtain ⟨r, e⟩ := bfs_mono ps t d
    exact ⟨r ++ kids ps (at0 (bfs ps (t + d)) (t + d)), by rw [← List.append_assoc, ← e]; rfl⟩
theorem bfs_at {ps : List Nat} {s t j : Nat} (h : s ≤ t) (hj : j < (bfs ps s).length) : at0 (bfs ps t) j = at0 (bfs ps s) j := by
  obtain ⟨r, e⟩ := bfs_mono ps s (t - s)
  rw [show s + (t - s) = t by omega] at e
  rw [e, at0_app hj]
structure Bfs (ps : List Nat) (t : Nat) : Prop where
  nd : (bfs ps t).Nodup
  le : ∀ c ∈ bfs ps t, c ≤ ps.length
  mem : ∀ c, 1 ≤ c → c ≤ ps.length → (c ∈ bfs ps t ↔ ∃ s, s < t ∧ at0 (bfs ps t) s = at0 ps (c - 1))
theorem bfs_ok {ps : List Nat} : ∀ t, goes ps t → Bfs ps t
  | 0, _ => ⟨by show [0].Nodup; simp, fun c hc => by have : c = 0 := by simpa using (show c ∈ [0] from hc)
                                                     omega, fun c h1 h2 => ⟨fun hc => by have : c = 0 := by simpa using (show c ∈ [0] from hc)
                                                                                         omega, fun ⟨s, hs, _⟩ => absurd hs (Nat.not_lt_zero _)⟩⟩
  | t + 1, g => by
    have I := bfs_ok t fun s hs => g s (by omega)
    have ht := g t (Nat.lt_succ_self _)
    have same : ∀ s, s < t + 1 → at0 (bfs ps (t + 1)) s = at0 (bfs ps t) s := fun s hs => bfs_at (Nat.le_succ _) (by omega)
    have inj : ∀ s, s < t → at0 (bfs ps t) s ≠ at0 (bfs ps t) t := fun s hs e => by
      have e1 := at0_some (st := bfs ps t) (j := s) (by omega)
      have e2 := at0_some (st := bfs ps t) (j := t) ht
      rw [e] at e1
      rw [List.getElem?_eq_getElem (by omega)] at e1 e2
      have := (List.getElem_inj I.nd).mp ((Option.some.inj e1).trans (Option.some.inj e2).symm)
      omega
    have new : ∀ c, c ∈ kids ps (at0 (bfs ps t) t) → c ∉ bfs ps t := fun c hc hm => by
      obtain ⟨h1, h2, h3⟩ := mem_kids.mp hc
      obtain ⟨s, hs, e⟩ := (I.mem c h1 h2).mp hm
      exact inj s hs (e.trans h3)
    refine ⟨?_, fun c hc => ?_, fun c h1 h2 => ?_⟩
    · refine List.nodup_append.mpr ⟨I.nd, kids_nodup _ _, fun a ha b hb e => new b hb (e ▸ ha)⟩
    · rcases List.mem_append.mp hc with z | z
      · exact I.le c z
      · exact (mem_kids.mp z).2.1
    · constructor
      · intro hc
        rcases List.mem_append.mp hc with z | z
        · obtain ⟨s, hs, e⟩ := (I.mem c h1 h2).mp z
          exact ⟨s, by omega, by rw [same s (by omega)]; exact e⟩
        · exact ⟨t, Nat.lt_succ_self _, by rw [same t (Nat.lt_succ_self _)]; exact (mem_kids.mp z).2.2.symm⟩
      · rintro ⟨s, hs, e⟩
        rw [same s hs] at e
        refine List.mem_append.mpr ?_
        by_cases c0 : s = t
        · subst c0
          exact .inr (mem_kids.mpr ⟨h1, h2, e.symm⟩)
        · exact .inl ((I.mem c h1 h2).mpr ⟨s, by omega, e⟩)
theorem Bfs.len {ps : List Nat} {t : Nat} (I : Bfs ps t) : (bfs ps t).length ≤ ps.length + 1 := by
  have := nodup_len (A := bfs ps t) (B := List.range (ps.length + 1)) I.nd fun c hc => List.mem_range.mpr (by have := I.le c hc; omega)
  rw [List.length_range] at this
  exact this
structure Done (ps : List Nat) (t : Nat) : Prop where
  go : goes ps t
  fin : (bfs ps t).length = t
theorem goes_succ {ps : List Nat} {t : Nat} (g : goes ps t) (h : t < (bfs ps t).length) : goes ps (t + 1) := fun s hs => by
  by_cases e : s = t
  · rw [e]; exact h
  · exact g s (by omega)
theorem goes_len {ps : List Nat} {t : Nat} (g : goes ps t) : t ≤ (bfs ps t).length := by
  cases t with
  | zero => exact Nat.zero_le _
  | succ t =>
    have h := g t (Nat.lt_succ_self _)
    have : (bfs ps (t + 1)).length = (bfs ps t).length + (kids ps (at0 (bfs ps t) t)).length := by
      show (bfs ps t ++ _).length = _
      rw [List.length_append]
    omega
structure Tre (ps : List Nat) : Prop where
  le : ∀ p ∈ ps, p ≤ ps.length
  all : ∀ t, Done ps t → ∀ c, c ≤ ps.length → c ∈ bfs ps t
theorem Tre.done {ps : List Nat} {t : Nat} (T : Tre ps) (D : Done ps t) : t = ps.length + 1 := by
  have I := bfs_ok t D.go
  have a := I.len
  have b := nodup_len (A := List.range (ps.length + 1)) (B := bfs ps t) List.nodup_range fun c hc => T.all t D c (by have := List.mem_range.mp hc; omega)
  rw [List.length_range] at b
  rw [← D.fin]
  omega
def row (ps : List Nat) : List Nat := bfs ps (ps.length + 1)
def trn (ps : List Nat) (x : Nat) : Nat := (row ps).idxOf x
structure Srv (ps : List Nat) : Prop where
  go : goes ps (ps.length + 1)
  stn : Stn (ps.length + 1) (row ps)
theorem Done.srv {ps : List Nat} (D : Done ps (ps.length + 1)) : Srv ps := by
  have I := bfs_ok _ D.go
  exact ⟨D.go, D.fin, I.nd, fun c hc => by have := I.le c hc; omega⟩
theorem Srv.at_trn {ps : List Nat} (S : Srv ps) {x : Nat} (h : x ≤ ps.length) : (row ps)[trn ps x]? = some x := S.stn.at_pos (by omega)
theorem Srv.trn_at {ps : List Nat} (S : Srv ps) {q x : Nat} (h : (row ps)[q]? = some x) : trn ps x = q := S.stn.pos_at h
def wsOf (ps : List Nat) : List Nat := ps.map (trn ps)
theorem wsOf_len (ps : List Nat) : (wsOf ps).length = ps.length := List.length_map ..
theorem wsOf_at {ps : List Nat} {i : Nat} (h : i < ps.length) : at0 (wsOf ps) i = trn ps (at0 ps i) := by
  refine at0_of ?_
  unfold wsOf
  rw [List.getElem?_map, at0_some h]
  rfl
theorem Srv.kids_eq {ps : List Nat} (S : Srv ps) (hp : ∀ p ∈ ps, p ≤ ps.length) {q : Nat} (hq : q < ps.length + 1) : kids ps (at0 (row ps) q) = kids (wsOf ps) q := by
  unfold kids kidsT
  rw [wsOf_len]
  congr 1
  refine List.filter_congr fun j hj => ?_
  have hj := List.mem_range.mp hj
  rw [wsOf_at hj]
  have pl := hp _ (List.mem_of_getElem? (at0_some hj))
  have e := at0_some (st := row ps) (j := q) (by rw [S.stn.len]; exact hq)
  by_cases c : at0 ps j = at0 (row ps) q
  · rw [decide_eq_true c, decide_eq_true (by rw [c]; exact S.trn_at e)]
  · rw [decide_eq_false c, decide_eq_false]
    intro z
    apply c
    have := S.at_trn pl
    rw [z, e] at this
    exact (Option.some.inj this).symm
def byW (ws : List Nat) (t : Nat) : List Nat := 0 :: ((List.range t).map (kids ws)).flatten
theorem byW_succ (ws : List Nat) (t : Nat) : byW ws (t + 1) = byW ws t ++ kids ws t := by
  unfold byW
  rw [List.range_succ, List.map_append, List.flatten_append]
  simp
theorem Srv.row_eq {ps : List Nat} (S : Srv ps) (hp : ∀ p ∈ ps, p ≤ ps.length) : ∀ t, t ≤ ps.length + 1 → bfs ps t = byW (wsOf ps) t
  | 0, _ => rfl
  | t + 1, h => by
    rw [byW_succ, ← S.row_eq hp t (by omega), ← S.kids_eq hp (by omega)]
    show bfs ps t ++ kids ps (at0 (bfs ps t) t) = _
    have : at0 (row ps) t = at0 (bfs ps t) t := bfs_at (by omega) (S.go t (by omega))
    rw [this]
theorem kids_none {ws : List Nat} {n : Nat} (h : ∀ w ∈ ws, w < n) : kids ws n = [] := by
  refine List.eq_nil_iff_forall_not_mem.mpr fun c hc => ?_
  obtain ⟨h1, h2, h3⟩ := mem_kids.mp hc
  have := h _ (List.mem_of_getElem? (at0_some (st := ws) (j := c - 1) (by omega)))
  omega
theorem kids_cnt (ws : List Nat) (q : Nat) : (kids ws q).length = ws.count q := by
  have key : ∀ i, i ≤ ws.length → (kidsT ws i q).length = (ws.take i).count q := by
    intro i
    induction i with
    | zero => intro _; rfl
    | succ i ih =>
      intro h
      have e := at0_some (st := ws) (j := i) (by omega)
      rw [kidsT_succ, take_snoc e, count_snoc, ← ih (by omega)]
      by_cases c : at0 ws i = q
      · rw [if_pos c, if_pos c, List.length_append]; rfl
      · rw [if_neg c, if_neg c]; rfl
  unfold kids
  rw [key _ (Nat.le_refl _), List.take_length]
theorem byW_len (ws : List Nat) : ∀ t, (byW ws t).length = 1 + below ws t
  | 0 => by rw [below_zero]; rfl
  | t + 1 => by rw [byW_succ, List.length_append, byW_len ws t, kids_cnt, below_succ]; omega
theorem Srv.full {ps : List Nat} (S : Srv ps) (hp : ∀ p ∈ ps, p ≤ ps.length) : FullL (wsOf ps).length (wsOf ps) := by
  refine ⟨rfl, fun k hk => ?_⟩
  rw [wsOf_len] at hk
  have e := congrArg List.length (S.row_eq hp k (by omega))
  rw [byW_len] at e
  have := S.go k (by omega)
  omega
theorem Srv.parents {ps : List Nat} (S : Srv ps) (hp : ∀ p ∈ ps, p ≤ ps.length) : (wsOf ps).map (at0 (byW (wsOf ps) (wsOf ps).length)) = ps := by
  have fu := S.full hp
  have e : byW (wsOf ps) (wsOf ps).length = row ps := by
    have e := S.row_eq hp (ps.length + 1) (Nat.le_refl _)
    rw [byW_succ, ← wsOf_len ps, kids_none fu.lt, List.append_nil] at e
    rw [wsOf_len] at e ⊢
    exact e.symm
  rw [e]
  unfold wsOf
  rw [List.map_map]
  have : ps.map (at0 (row ps) ∘ trn ps) = ps.map id := List.map_congr_left fun p hp' => at0_of (S.at_trn (hp p hp'))
  rw [this, List.map_id]
def psOf (ws : List Nat) : List Nat := ws.map (at0 (byW ws ws.length))
theorem byW_mem {ws : List Nat} {t c : Nat} : c ∈ byW ws t ↔ c = 0 ∨ (1 ≤ c ∧ c ≤ ws.length ∧ at0 ws (c - 1) < t) := by
  unfold byW
  rw [List.mem_cons]
  constructor
  · rintro (z | z)
    · exact .inl z
    · obtain ⟨l, hl, hc⟩ := List.mem_flatten.mp z
      obtain ⟨q, hq, rfl⟩ := List.mem_map.mp hl
      obtain ⟨h1, h2, h3⟩ := mem_kids.mp hc
      exact .inr ⟨h1, h2, by rw [h3]; exact List.mem_range.mp hq⟩
  · rintro (z | ⟨h1, h2, h3⟩)
    · exact .inl z
    · exact .inr (List.mem_flatten.mpr ⟨_, List.mem_map.mpr ⟨_, List.mem_range.mpr h3, rfl⟩, mem_kids.mpr ⟨h1, h2, rfl⟩⟩)
theorem byW_nodup (ws : List Nat) : ∀ t, (byW ws t).Nodup
  | 0 => by show [0].Nodup; simp
  | t + 1 => by
    rw [byW_succ]
    refine List.nodup_append.mpr ⟨byW_nodup ws t, kids_nodup _ _, fun a ha b hb e => ?_⟩
    subst e
    obtain ⟨h1, h2, h3⟩ := mem_kids.mp hb
    rcases byW_mem.mp ha with z | ⟨_, _, z⟩
    · omega
    · omega
theorem byW_stn {n : Nat} {ws : List Nat} (fu : FullL n ws) : Stn (n + 1) (byW ws n) := by
  refine ⟨?_, byW_nodup ws n, fun c hc => ?_⟩
  · rw [byW_len, below_all fu.lt, fu.1]; omega
  · rcases byW_mem.mp hc with z | ⟨_, z, _⟩
    · omega
    · rw [fu.1] at z; omega
theorem not_in {ps A : List Nat} (h0 : 0 ∉ A) (h : ∀ c ∈ A, 1 ≤ c ∧ c ≤ ps.length ∧ at0 ps (c - 1) ∈ A) : ∀ t, goes ps t → ∀ c ∈ A, c ∉ bfs ps t
  | 0, _, c, hc => fun m => h0 (by have : c = 0 := by simpa using (show c ∈ [0] from m)
                                   rw [← this]; exact hc)
  | t + 1, g, c, hc => fun m => by
    have lt := g t (Nat.lt_succ_self _)
    have g' : goes ps t := fun s hs => g s (by omega)
    rcases List.mem_append.mp m with z | z
    · exact not_in h0 h t g' c hc z
    · obtain ⟨_, _, e⟩ := mem_kids.mp z
      have := (h c hc).2.2
      rw [e] at this
      exact not_in h0 h t g' _ this (List.mem_of_getElem? (at0_some lt))
theorem loop_short {ps A : List Nat} {t c : Nat} (h0 : 0 ∉ A) (h : ∀ c ∈ A, 1 ≤ c ∧ c ≤ ps.length ∧ at0 ps (c - 1) ∈ A) (hc : c ∈ A) (g : goes ps t) : (bfs ps t).length ≤ ps.length := by
  have I := bfs_ok t g
  have no := not_in h0 h t g c hc
  have b := nodup_len (A := c :: bfs ps t) (B := List.range (ps.length + 1)) (List.nodup_cons.mpr ⟨no, I.nd⟩) fun x hx => by
    rcases List.mem_cons.mp hx with e | e
    · have := (h c hc).2.1
      exact List.mem_range.mpr (by omega)
    · exact List.mem_range.mpr (by have := I.le x e; omega)
  rw [List.length_cons, List.length_range] at b
  omega
end Pk
namespace Pk
theorem sort_one {r : Nat → Nat → Prop} (as : ∀ a b, r a b → r b a → False) : ∀ {xs ys : List Nat}, xs.Pairwise r → ys.Pairwise r → (∀ c, c ∈ xs ↔ c ∈ ys) → xs = ys
  | [], [], _, _, _ => rfl
  | [], y :: ys, _, _, h => by have := (h y).mpr (by simp); simp at this
  | x :: xs, [], _, _, h => by have := (h x).mp (by simp); simp at this
  | x :: xs, y :: ys, hx, hy, h => by
    have hx1 := List.pairwise_cons.mp hx
    have hy1 := List.pairwise_cons.mp hy
    have e : x = y := by
      rcases List.mem_cons.mp ((h x).mp (by simp)) with e | e
      · exact e
      · rcases List.mem_cons.mp ((h y).mpr (by simp)) with e2 | e2
        · exact e2.symm
        · exact (as x y (hx1.1 y e2) (hy1.1 x e)).elim
    subst e
    rw [sort_one as hx1.2 hy1.2 fun c => ?_]
    refine ⟨fun m => ?_, fun m => ?_⟩
    · rcases List.mem_cons.mp ((h c).mp (List.mem_cons_of_mem _ m)) with e | e
      · subst e; exact (as c c (hx1.1 c m) (hx1.1 c m)).elim
      · exact e
    · rcases List.mem_cons.mp ((h c).mpr (List.mem_cons_of_mem _ m)) with e | e
      · subst e; exact (as c c (hy1.1 c m) (hy1.1 c m)).elim
      · exact e
def lexw (ws : List Nat) (a b : Nat) : Prop := at0 ws (a - 1) < at0 ws (b - 1) ∨ (at0 ws (a - 1) = at0 ws (b - 1) ∧ a < b)
theorem lexw_as (ws : List Nat) (a b : Nat) (h : lexw ws a b) (g : lexw ws b a) : False := by
  unfold lexw at h g
  omega
theorem kids_up (ws : List Nat) (q : Nat) : (kids ws q).Pairwise (· < ·) := by
  unfold kids kidsT
  rw [List.pairwise_map]
  exact (List.pairwise_lt_range.filter _).imp fun h => by omega
theorem fl_up (ws : List Nat) : ∀ t, (((List.range t).map (kids ws)).flatten).Pairwise (lexw ws)
  | 0 => by simp
  | t + 1 => by
    rw [List.range_succ, List.map_append, List.flatten_append, List.pairwise_append]
    refine ⟨fl_up ws t, ?_, fun a ha b hb => ?_⟩
    · simp only [List.map_cons, List.map_nil, List.flatten_cons, List.flatten_nil, List.append_nil]
      have h := kids_up ws t
      rw [List.pairwise_iff_getElem] at h ⊢
      intro i j hi hj hij
      have h1 := mem_kids.mp (List.getElem_mem hi)
      have h2 := mem_kids.mp (List.getElem_mem hj)
      exact .inr ⟨h1.2.2.trans h2.2.2.symm, h i j hi hj hij⟩
    · simp only [List.map_cons, List.map_nil, List.flatten_cons, List.flatten_nil, List.append_nil] at hb
      have h2 := mem_kids.mp hb
      obtain ⟨l, hl, ha⟩ := List.mem_flatten.mp ha
      obtain ⟨q, hq, rfl⟩ := List.mem_map.mp hl
      have h1 := mem_kids.mp ha
      have := List.mem_range.mp hq
      exact .inl (by rw [h1.2.2, h2.2.2]; exact this)
theorem mem_fl {ws : List Nat} {t c : Nat} : c ∈ ((List.range t).map (kids ws)).flatten ↔ 1 ≤ c ∧ c ≤ ws.length ∧ at0 ws (c - 1) < t := by
  constructor
  · intro h
    obtain ⟨l, hl, ha⟩ := List.mem_flatten.mp h
    obtain ⟨q, hq, rfl⟩ := List.mem_map.mp hl
    have h1 := mem_kids.mp ha
    have := List.mem_range.mp hq
    exact ⟨h1.1, h1.2.1, by rw [h1.2.2]; exact this⟩
  · rintro ⟨a, b, d⟩
    exact List.mem_flatten.mpr ⟨kids ws (at0 ws (c - 1)), List.mem_map.mpr ⟨_, List.mem_range.mpr d, rfl⟩, mem_kids.mpr ⟨a, b, rfl⟩⟩
theorem all_of {n : Nat} {xs : List Nat} (nd : xs.Nodup) (hl : xs.length = n) (hlt : ∀ x ∈ xs, x < n) : ∀ c, c < n → c ∈ xs := by
  intro c hc
  have p : xs.Perm (List.range n) := Stn.perm ⟨hl, nd, hlt⟩
  exact p.mem_iff.mpr (List.mem_range.mpr hc)
theorem row_sort {ws xs : List Nat} (hw : ∀ w ∈ ws, w < ws.length) (hl : xs.length = ws.length) (hlt : ∀ x ∈ xs, 1 ≤ x ∧ x ≤ ws.length) (up : xs.Pairwise (lexw ws)) : 0 :: xs = byW ws ws.length := by
  unfold byW
  have nd : xs.Nodup := up.imp fun {a b} h e => by subst e; exact lexw_as ws a a h h
  have all : ∀ c, c < ws.length → c ∈ xs.map (· - 1) := by
    refine all_of ?_ (by rw [List.length_map]; exact hl) fun x hx => ?_
    · rw [List.Nodup, List.pairwise_map]
      rw [List.Nodup, List.pairwise_iff_getElem] at nd
      rw [List.pairwise_iff_getElem]
      intro i j hi hj hij e
      have := hlt _ (List.getElem_mem hi)
      have := hlt _ (List.getElem_mem hj)
      exact nd i j hi hj hij (by omega)
    · obtain ⟨y, hy, rfl⟩ := List.mem_map.mp hx
      have := hlt y hy
      omega
  rw [sort_one (lexw_as ws) up (fl_up ws ws.length) fun c => ?_]
  rw [mem_fl]
  refine ⟨fun m => ⟨(hlt c m).1, (hlt c m).2, hw _ ?_⟩, fun m => ?_⟩
  · have := hlt c m
    unfold at0
    rw [List.getD_eq_getElem?_getD, List.getElem?_eq_getElem (by omega)]
    exact List.getElem_mem _
  · obtain ⟨y, hy, e⟩ := List.mem_map.mp (all (c - 1) (by omega))
    have := hlt y hy
    have : y = c := by omega
    subst this
    exact hy
theorem Done.one {ps : List Nat} {t u : Nat} (a : Done ps t) (b : Done ps u) : t = u := by
  have f1 := a.fin
  have f2 := b.fin
  rcases Nat.lt_trichotomy t u with c | c | c
  · have := b.go t c; omega
  · exact c
  · have := a.go u c; omega
end Pk
namespace Pk
theorem done_go (ps : List Nat) : ∀ (d t : Nat), goes ps t → ps.length + 1 - t ≤ d → ∃ u, Done ps u
  | d, t, g, h => by
    have I := bfs_ok t g
    have l := I.len
    have gl := goes_len g
    by_cases c : t < (bfs ps t).length
    · cases d with
      | zero => omega
      | succ d => exact done_go ps d (t + 1) (goes_succ g c) (by omega)
    · exact ⟨t, g, by omega⟩
theorem done_ex (ps : List Nat) : ∃ u, Done ps u := done_go ps _ 0 (fun s hs => absurd hs (Nat.not_lt_zero _)) (Nat.le_refl _)
theorem Tre.dn {ps : List Nat} (T : Tre ps) : Done ps (ps.length + 1) := by
  obtain ⟨u, D⟩ := done_ex ps
  have e := T.done D
  rw [← e]
  exact D
theorem Tre.srv {ps : List Nat} (T : Tre ps) : Srv ps := T.dn.srv
def bel (ps : List Nat) (t i : Nat) : List Nat := (bfs ps (t + i)).drop (bfs ps t).length
structure Chn (ps cs : List Nat) (c0 up : Nat) : Prop where
  mem : ∀ c ∈ cs, 1 ≤ c ∧ c ≤ ps.length
  nx : ∀ i c d, cs[i]? = some c → cs[i + 1]? = some d → at0 ps (c - 1) = d
  last : ∀ c, cs.getLast? = some c → at0 ps (c - 1) = up
  fst : cs = [] ∧ up = c0 ∨ cs[0]? = some c0
theorem Chn.start (ps : List Nat) (c0 : Nat) : Chn ps [] c0 c0 := ⟨fun c hc => by simp at hc, fun i c d h => by simp at h, fun c h => by simp at h, .inl ⟨rfl, rfl⟩⟩
theorem Chn.more {ps cs : List Nat} {c0 up : Nat} (C : Chn ps cs c0 up) (h1 : 1 ≤ up) (h2 : up ≤ ps.length) : Chn ps (cs ++ [up]) c0 (at0 ps (up - 1)) := by
  refine ⟨fun c hc => ?_, fun i c d hi hj => ?_, fun c hc => ?_, .inr ?_⟩
  · rcases List.mem_append.mp hc with m | m
    · exact C.mem c m
    · rw [List.mem_singleton.mp m]; exact ⟨h1, h2⟩
  · by_cases l : i + 1 < cs.length
    · rw [List.getElem?_append_left (by omega)] at hi
      rw [List.getElem?_append_left l] at hj
      exact C.nx i c d hi hj
    · have l2 := (List.getElem?_eq_some_iff.mp hj).1
      rw [List.length_append, List.length_singleton] at l2
      have e : i + 1 = cs.length := by omega
      rw [e, List.getElem?_append_right (Nat.le_refl _), Nat.sub_self] at hj
      have hd : up = d := by simpa using hj
      rw [List.getElem?_append_left (by omega)] at hi
      rw [← hd]
      refine C.last c ?_
      rw [List.getLast?_eq_getElem?, show cs.length - 1 = i by omega]
      exact hi
  · rw [List.getLast?_concat] at hc
    cases hc
    rfl
  · rcases C.fst with ⟨rfl, e⟩ | e
    · subst e; rfl
    · rw [List.getElem?_append_left (List.getElem?_eq_some_iff.mp e).1]
      exact e
end Pk
namespace L2
open PySem PySem.Spec PyProof.Rows
section
variable {P : Program} {w : World} {K : PySem.W.Frag} {mg : Str → Option Value} {base : Heap}
structure Def (P : Program) (w : World) (K : PySem.W.Frag) (mg : Str → Option Value) (base : Heap) (k : Nat) (x : Str) (ps : List Str) (sp : Sp) : Prop where
  ex : ∃ (f : Addr) (fd : FuncData), mg x = some (.ref f) ∧ PySem.W.keepIn K (.ref f) = true ∧ Binds K fd ps [] ∧ FnOk P w K mg base CX0 k f fd ps sp
structure Src (K : PySem.W.Frag) (mg : Str → Option Value) (x : Str) (st : Stmt) (ps : List Str) : Prop where
  ex : ∃ (f : Addr) (fd : FuncData), mg x = some (.ref f) ∧ Fun K x x st f fd ∧ Binds K fd ps []
theorem Src.ok {x : Str} {st : Stmt} {N ps : List Str} {k : Nat} {sp : Sp} (S : Src K mg x st ps) (sc : FnScope N ps (defScope st)) (len : ∀ vs H Q E, sp vs H Q E → vs.length = ps.length)
    (hbody : ∀ (f : Addr) (cdv : Value) (A : Around) (outer : List Env) (s : Shared) (H : Hp) (vs : List V) (Q : VK) (E : XK), Room k (A.deeper (envOfC x (defScope st) s.heap.objs.size f cdv)) → sp vs H Q E →
      ∃ t, PSs (cxOf CX0 P w K mg base N x (defScope st) f cdv A outer s H E).nox (defBody st) t ∧ t { nx := fun _ H' => Q .non H', rt := Q } (start N vs) H) : Def P w K mg base (k + 1) x ps sp := by
  obtain ⟨f, fd, h1, h2, h3⟩ := S.ex
  exact ⟨f, fd, h1, h2.kp, h3, h2.ok sc len fun cdv A outer s H vs Q E hr h => hbody f cdv A outer s H vs Q E hr h⟩
theorem Def.mono {x : Str} {ps : List Str} {sp : Sp} {j k : Nat} (D : Def P w K mg base j x ps sp) (h : j ≤ k) : Def P w K mg base k x ps sp := by
  obtain ⟨f, fd, h1, h2, h3, h4⟩ := D.ex
  exact ⟨f, fd, h1, h2, h3, h4.mono h⟩
end
theorem pe_callD {X : Cx} {k : Nat} {x : Str} {ps : List Str} {sp : Sp} {p pos : Pos} {e : Expr} {es : List Expr} {t : TA} (D : Def X.prog X.w X.K X.mg X.base k x ps sp) (hr : Room k X.A) (hg : Gl X x) (ha : PA X (e :: es) t)
    (hdb : (x == ("__debug__" : Str)) = false := by decide) (he : starEach (e :: es) X.env = (false, eval e X.env) :: starEach es X.env := by rfl) (hpl : (backTo pos (starEach es X.env)).any (·.1) = false := by rfl) :
    PE X (.Call (.Name x p) (e :: es) [] pos) (tCall sp [] E0 t) := by
  obtain ⟨f, fd, h1, h2, h3, h4⟩ := D.ex
  exact pe_call h4 hr hg h1 h2 h3 .nil pass0 ha hdb he hpl
theorem pg_tupK {X : Cx} {K : PySem.W.Frag} {pos : Pos} {es : List Expr} {k : Nat} {t : TGs} {n : Nat} (hK : X.K = K) (hc : X.calm = true) (h : PGs X es t) (hn : (assignEach es X.env).length = n := by rfl) (hst : (assignEach es X.env).findIdx? (·.1) = none := by rfl) :
    PG X (.Tuple es k pos) (gTup K n t) := by
  subst hK
  exact pg_tup hc h hn hst
theorem t_true {σ : L2.St} {H : Hp} {Q : Bool → Hp → Prop} (h : Q true H) : tTrue σ H Q := h
theorem g_name {i : Nat} {v : V} {σ : L2.St} {H : Hp} {Q : L2.St → Hp → Prop} (h : Q (σ.set i (some v)) H) : gName i v σ H Q := h
theorem t_c {v : V} {σ : L2.St} {H : Hp} {Q : VK} (h : Q v H) : tC v σ H Q := h
theorem upd_id {H : Hp} {a : Addr} {o : HO} (h : H a = some o) : upd H a o = H := by
  funext b
  unfold upd
  by_cases c : b = a
  · rw [if_pos c, c, h]
  · rw [if_neg c]
theorem Same.new {H : Hp} {a : Addr} {o : HO} (h : H a = none) : Same H (upd H a o) := fun b u e => by rw [upd_ne (ne_of_none e h)]; exact e
theorem Same.next {H H1 : Hp} {a : Addr} {o : HO} (s : Same H H1) (h : H1 a = none) : Same H (upd H1 a o) := s.trans (Same.new h)
theorem Same.own {H H1 : Hp} {a : Addr} {o : HO} (s : Same H H1) (h : H a = none) : Same H (upd H1 a o) := fun b u e => by rw [upd_ne (ne_of_none e h)]; exact s b u e
def toI (ws : List Nat) : List Int := ws.map fun n => ((n : Nat) : Int)
abbrev vI (ws : List Nat) : List V := (toI ws).map V.int
theorem vI_eq (ws : List Nat) : vI ws = ws.map fun n => V.int ((n : Nat) : Int) := by
  unfold vI toI
  rw [List.map_map]
  rfl
theorem vI_len (ws : List Nat) : (vI ws).length = ws.length := by rw [vI_eq, List.length_map]
theorem toI_len (ws : List Nat) : (toI ws).length = ws.length := List.length_map ..
theorem vI_at {ws : List Nat} {i : Nat} {x : V} (h : (vI ws)[i]? = some x) : ∃ w, ws[i]? = some w ∧ x = V.int ((w : Nat) : Int) := by
  rw [vI_eq, List.getElem?_map] at h
  cases e : ws[i]? with
  | none => rw [e] at h; cases h
  | some w => rw [e] at h; exact ⟨w, rfl, (Option.some.inj h).symm⟩
theorem vI_get {ws : List Nat} {i w : Nat} (h : ws[i]? = some w) : (vI ws)[i]? = some (V.int ((w : Nat) : Int)) := by
  rw [vI_eq, List.getElem?_map, h]
  rfl
theorem vI_snoc (ws : List Nat) (w : Nat) : vI (ws ++ [w]) = vI ws ++ [V.int ((w : Nat) : Int)] := by
  rw [vI_eq, vI_eq, List.map_append]
  rfl
def DRel (kvs : List (Key × V)) (D : Nat → Option Nat) : Prop := ∀ p : Nat, valV kvs (Sum.inl ((p : Nat) : Int) : Key) = (D p).map fun n => V.int ((n : Nat) : Int)
theorem DRel.nil : DRel [] (fun _ => none) := fun _ => valV_nil
theorem DRel.put {kvs : List (Key × V)} {D : Nat → Option Nat} (h : DRel kvs D) (p n : Nat) : DRel (putK kvs (Sum.inl ((p : Nat) : Int)) (.int ((n : Nat) : Int))) (Pk.put D p n) := fun q => by
  rw [valV_put]
  unfold Pk.put
  by_cases e : q = p
  · rw [if_pos (by rw [e]), if_pos e]
    rfl
  · rw [if_neg (fun z => e (by have := Sum.inl.inj z; omega)), if_neg e]
    exact h q
theorem putK_len {kvs : List (Key × V)} {k : Key} {v x : V} (h : valV kvs k = some x) : (putK kvs k v).length = kvs.length := by
  unfold putK
  rw [if_pos (by rw [valV_any, h]; rfl), List.length_map]
end L2
namespace L2
open PySem PySem.Spec PyProof.Rows
structure Fl (B : Heap) (l : List Env) (e : Addr) (cls fl : Value) (h : Heap) : Prop where
  st : B.StaysIn h
  ne : B.get? e = none
  ff : h.FunFrames B l
  ob : ∃ oe vs T oT ts, h.get? e = some oe ∧ oe.cls = cls ∧ oe.dict = none ∧ oe.data = .fields vs ∧ vs[1]? = some (.ref T) ∧ vs[2]? = some .none ∧ B.get? T = none ∧ T ≠ e ∧ h.get? T = some oT ∧ oT.data = .fields ts ∧ ts[3]? = some fl
theorem dict_mapFields (o : Obj) (f : Array Value → Array Value) : (o.mapFields f).dict = o.dict := by
  obtain ⟨c, d, dt, sl⟩ := o
  cases dt <;> rfl
section
variable {M : Model} {A : Around} {E : Value → Shared → Prop} {s : Shared} {B : Heap} {env : Env} {outer l : List Env} {L e : Addr} {cls fl : Value} {Q : Unit → Shared → Prop}
theorem entry_on {oe : Obj} {vs : Array Value} {head : Value} {hn : Bool} (fr : A.frames = some (env :: outer)) (hf : env.frame = some L) (st : B.StaysIn s.heap) (ne : B.get? e = none) (ff : s.heap.FunFrames B (env :: outer))
    (he : s.heap.get? e = some oe) (hdn : oe.dict = none) (hd : oe.data = .fields vs) (sz : 1 < vs.size) (h2 : vs[2]? = some .none) (k : ∀ h', Fl B (env :: outer) e oe.cls (rawInt L) h' → s.heap.UpToSlots h' → Q () { s with heap := h' }) :
    wpAny M A (do let a ← frameOf env; let pl ← entryPlaceOf L hn; let b ← EntryCells.newEntry head a .none (rawInt L) .none pl; setField (.ref e) 1 b) Q E s := by
  have out : e ∉ (env :: outer).filterMap (·.frame) := fun m => by
    obtain ⟨_, o, h1, h3⟩ := ff.mem m
    rw [he] at h1
    cases h1
    exact h3 vs hd
  refine wpAny_bind (wpAny_frameOf_fun fr ff hf fun g sg => wpAny_bind (wpAny_entryPlaceOf fun pl hpl => ?_))
  have e1 : g.get? e = some oe := (sg.2.1 e out).trans he
  have ne' : g.objs.size ≠ e := Nat.ne_of_gt (Heap.lt_size e1)
  have sb : B.StaysIn g := fun b o hb => (sg.2.1 b fun m => by have z := (ff.mem m).1; rw [hb] at z; cases z).trans (st b o hb)
  have key : ∀ ob : Obj, (∃ ts, ob.data = .fields ts ∧ ts[3]? = some (rawInt L)) → wpAny M A (setField (.ref e) 1 (.ref g.objs.size)) Q E { s with heap := g.push ob } := by
    rintro ob ⟨ts, hts, h3⟩
    have e2 := Heap.get?_push_of_some (h := g) ob e1
    refine wpAny_setField e2 hd sz ?_
    have keep : ∀ b o, b ≠ e → g.get? b = some o → ((g.push ob).update e (Obj.mapFields (·.setIfInBounds 1 (Value.ref g.objs.size)))).get? b = some o := fun b o hb hg => (Heap.get?_update_other _ _ (Ne.symm hb)).trans (Heap.get?_push_of_some _ hg)
    have hnr : ∀ b o, s.heap.get? b = some o → (∀ vs, o.data ≠ .fields vs) → b ≠ e := fun b o hb nf z => by
      subst z
      rw [he] at hb
      cases hb
      exact nf vs hd
    have up : s.heap.UpToSlots ((g.push ob).update e (Obj.mapFields (·.setIfInBounds 1 (Value.ref g.objs.size)))) := fun b o hb nf => by
      obtain ⟨sl, hs⟩ := sg.2.2 b o hb
      exact ⟨sl, keep b _ (hnr b o hb nf) hs⟩
    refine k _ ⟨fun b o hb => keep b o (fun z => by subst z; rw [ne] at hb; cases hb) (sb b o hb), ne, ff.of_keeps fun b o hb nf => ?_, ?_⟩ up
    · obtain ⟨sl, hs⟩ := up b o hb nf
      exact ⟨_, hs, rfl⟩
    · have hd' := Obj.data_mapFields hd (·.setIfInBounds 1 (Value.ref g.objs.size))
      refine ⟨_, _, g.objs.size, ob, ts, Heap.get?_update_self _ e2 (Obj.isFreed_of_fields hd'), Obj.cls_mapFields _ _, (dict_mapFields _ _).trans hdn, hd', by simp [sz], ?_, sb.fresh, ne', ?_, hts, h3⟩
      · rw [Array.getElem?_setIfInBounds_ne (by decide)]
        exact h2
      · exact (Heap.get?_update_other _ _ (Ne.symm ne')).trans (Heap.get?_push_size g (Obj.isFreed_of_fields hts))
  unfold EntryCells.newEntry newFields
  refine wpAny_bind (wpAny_newObj_type (key _ ⟨_, rfl, ?_⟩) (hpl.sizeOk5 _ _ _ _ _))
  first | (simp; done) | (rcases hpl with rfl | ⟨_, _, _, _, _, _, _, rfl⟩ <;> simp)
theorem note_first {oe : Obj} {vs : Array Value} (fr : A.frames = some (env :: outer)) (hf : env.frame = some L) (st : B.StaysIn s.heap) (ne : B.get? e = none) (ff : s.heap.FunFrames B (env :: outer)) (he : s.heap.get? e = some oe) (hdn : oe.dict = none) (hd : oe.data = .fields vs)
    (h1 : vs[1]? = some .none) (h2 : vs[2]? = some .none) (k : ∀ h', Fl B (env :: outer) e oe.cls (rawInt L) h' → s.heap.UpToSlots h' → Q () { s with heap := h' }) : wpAny M A (noteFrame (.ref e) env) Q E s := by
  unfold noteFrame
  simp only [hf]
  refine wpAny_bind (wpAny_field he hd h1 ?_)
  rw [if_neg (by decide)]
  exact entry_on fr hf st ne ff he hdn hd (Array.getElem?_eq_some_iff.mp h1).1 h2 k
theorem note_next (fr : A.frames = some (env :: outer)) (hf : env.frame = some L) (x : Fl B (env :: outer) e cls .none s.heap) (k : ∀ h', Fl B (env :: outer) e cls (rawInt L) h' → s.heap.UpToSlots h' → Q () { s with heap := h' }) :
    wpAny M A (noteFrame (.ref e) env) Q E s := by
  obtain ⟨st, ne, ff, oe, vs, T, oT, ts, he, hc, hdn, hd, h1, h2, hB, hTe, hT, hdT, h3⟩ := x
  subst hc
  unfold noteFrame
  simp only [hf]
  refine wpAny_bind (wpAny_field he hd h1 ?_)
  rw [if_pos (by simp)]
  refine wpAny_bind (wpAny_field hT hdT h3 ?_)
  rw [if_neg (by simp [rawInt])]
  refine wpAny_bind (wpAny_setField hT hdT (Array.getElem?_eq_some_iff.mp h3).1 ?_)
  have oth : ∀ b, b ≠ T → (s.heap.update T (Obj.mapFields (·.setIfInBounds 3 Value.none))).get? b = s.heap.get? b := fun b hb => Heap.get?_update_other _ _ (Ne.symm hb)
  have hnr : ∀ b o, s.heap.get? b = some o → (∀ vs, o.data ≠ .fields vs) → b ≠ T := fun b o hb nf z => by
    subst z
    rw [hT] at hb
    cases hb
    exact nf ts hdT
  refine entry_on fr hf (fun b o hb => (oth b fun z => by subst z; rw [hB] at hb; cases hb).trans (st b o hb)) ne (ff.of_keeps fun b o hb nf => ⟨o, (oth b (hnr b o hb nf)).trans hb, rfl⟩) ((oth e (Ne.symm hTe)).trans he) hdn hd (Array.getElem?_eq_some_iff.mp h1).1 h2 fun h' y up => k h' y fun b o hb nf => ?_
  exact up b o ((oth b (hnr b o hb nf)).trans hb) nf
theorem flight_off (x : Fl B l e cls fl s.heap) (k : ∀ h', Fl B l e cls .none h' → s.heap.UpToSlots h' → Q () { s with heap := h' }) : wpAny M A (setFlight (.ref e) none) Q E s := by
  obtain ⟨st, ne, ff, oe, vs, T, oT, ts, he, hc, hdn, hd, h1, h2, hB, hTe, hT, hdT, h3⟩ := x
  have sz := (Array.getElem?_eq_some_iff.mp h3).1
  have hnr : ∀ b o, s.heap.get? b = some o → (∀ vs, o.data ≠ .fields vs) → b ≠ T := fun b o hb nf z => by
    subst z
    rw [hT] at hb
    cases hb
    exact nf ts hdT
  unfold setFlight
  refine wpAny_bind (wpAny_field he hd h1 ?_)
  rw [if_pos (by simp)]
  refine wpAny_setField hT hdT sz ?_
  have hd' := Obj.data_mapFields hdT (·.setIfInBounds 3 Value.none)
  have oth : ∀ b, b ≠ T → (s.heap.update T (Obj.mapFields (·.setIfInBounds 3 Value.none))).get? b = s.heap.get? b := fun b hb => Heap.get?_update_other _ _ (Ne.symm hb)
  refine k _ ⟨fun b o hb => (oth b fun z => by subst z; rw [hB] at hb; cases hb).trans (st b o hb), ne, ff.of_keeps fun b o hb nf => ⟨o, (oth b (hnr b o hb nf)).trans hb, rfl⟩, ?_⟩ fun b o hb nf => ⟨o.slots, (oth b (hnr b o hb nf)).trans hb⟩
  exact ⟨oe, vs, T, _, _, (oth e (Ne.symm hTe)).trans he, hc, hdn, hd, h1, h2, hB, hTe, Heap.get?_update_self _ hT (Obj.isFreed_of_fields hd'), hd', by simp [sz]⟩
theorem leave_first {oe : Obj} {vs : Array Value} (fr : A.frames = some (env :: outer)) (hf : env.frame = some L) (st : B.StaysIn s.heap) (ne : B.get? e = none) (ff : s.heap.FunFrames B (env :: outer)) (he : s.heap.get? e = some oe) (hdn : oe.dict = none) (hd : oe.data = .fields vs)
    (h1 : vs[1]? = some .none) (h2 : vs[2]? = some .none) (k : ∀ h', Fl B outer e oe.cls .none h' → s.heap.UpToSlots h' → Q () { s with heap := h' }) : wpAny M A (leaving env (.ref e)) Q E s := by
  unfold leaving
  refine wpAny_bind (note_first fr hf st ne ff he hdn hd h1 h2 fun h1 x1 u1 => flight_off x1 fun h2 x2 u2 => k h2 ⟨x2.st, x2.ne, x2.ff.2.2, x2.ob⟩ (u1.trans u2))
theorem leave_next (fr : A.frames = some (env :: outer)) (hf : env.frame = some L) (x : Fl B (env :: outer) e cls .none s.heap) (k : ∀ h', Fl B outer e cls .none h' → s.heap.UpToSlots h' → Q () { s with heap := h' }) : wpAny M A (leaving env (.ref e)) Q E s := by
  unfold leaving
  refine wpAny_bind (note_next fr hf x fun h1 x1 u1 => flight_off x1 fun h2 x2 u2 => k h2 ⟨x2.st, x2.ne, x2.ff.2.2, x2.ob⟩ (u1.trans u2))
end
theorem ObjOk.ob {P : Program} {w : World} {H : Hp} {h : Heap} {a : Addr} {o : HO} (x : ObjOk P w H h a o) : ∃ u, h.get? a = some u := by
  cases o with
  | lst xs => obtain ⟨_, _, _, _, e⟩ := x; exact ⟨_, e⟩
  | tup xs => obtain ⟨_, _, _, _, e, _⟩ := x; exact ⟨_, e⟩
  | dK kvs => obtain ⟨_, _, _, _, o, _, _, e, _⟩ := x; exact ⟨_, e⟩
  | dT kvs => obtain ⟨_, _, _, _, o, _, _, e, _⟩ := x; exact ⟨_, e⟩
  | set S n => obtain ⟨o, _, _, _, e, _⟩ := x; exact ⟨_, e⟩
  | ins C dx fs => obtain ⟨_, _, _, e, _⟩ := x; exact ⟨_, e⟩
  | own y => exact x
  | xd fs => obtain ⟨_, ⟨_, _, _, e, _⟩, _⟩ := x; exact ⟨_, e⟩
  | rng lo hi => obtain ⟨_, _, _, e⟩ := x; exact ⟨_, e⟩
  | frz ob u => obtain ⟨e, _⟩ := x; exact ⟨_, e⟩
  | tbl ps => exact ⟨_, (show h.get? a = some _ from x)⟩
  | met f y => exact ⟨_, (show h.get? a = some _ from x)⟩
  | ext φ => obtain ⟨_, e, _⟩ := x; exact e
structure Fy (P : Program) (w : World) (l : List Env) (H H' : Hp) (h h' B : Heap) (a : Addr) : Prop where
  un : Un (frs l) [] H H' h h'
  hok : HOk P w H' h'
  ff : h'.FunFrames B l
  kept : ∀ b o, h.get? b = some o → H b = none → b ∉ frs l → B.get? b = some o
  trk : ∀ b o, h'.get? b = some o → H' b ≠ none → B.get? b = some o
  has : ∀ b o, h.get? b = some o → b ∉ frs l → ∃ o', B.get? b = some o'
  nt : H' a = none
theorem Fy.on {P : Program} {w : World} {l l' : List Env} {H0 H H' : Hp} {h0 h h' h2 B : Heap} {a : Addr} {cls fl : Value} (base : Un (frs l') [] H0 H h0 h) (x : Fy P w l H H' h h' B a) (hs : ∀ b ∈ frs l', b ∈ frs l)
    (hn : ∀ b o, h0.get? b = some o → b ∉ frs l' → b ∉ frs l) (frf : ∀ b ∈ frs l', H0 b = none) (f : Fl B l' a cls fl h2) (u : h'.UpToSlots h2) : Fy P w l' H0 H' h0 h2 B a := by
  have un : Un (frs l) [] H0 H' h0 h' := (base.mono hs (fun _ z => z)).trans x.un
  have kept : ∀ b o, h0.get? b = some o → H0 b = none → b ∉ frs l' → B.get? b = some o := fun b o q n hb => x.kept b o (base.keep b o q n hb (by simp)) (base.free b o q n (by simp)) (hn b o q hb)
  have has : ∀ b o, h0.get? b = some o → b ∉ frs l' → ∃ o', B.get? b = some o' := fun b o q hb => by
    obtain ⟨o', e⟩ := base.there b o q (by simp)
    exact x.has b o' e (hn b o q hb)
  have slot : ∀ b o, h0.get? b = some o → b ∈ frs l' → ∃ sl, h2.get? b = some { o with slots := sl } := fun b o q hb => by
    obtain ⟨sl, e⟩ := un.slot b o q (frf b hb) (hs b hb) (by simp)
    obtain ⟨_, o', e', nf⟩ := x.ff.mem (hs b hb)
    rw [e] at e'
    cases e'
    obtain ⟨sl', e2⟩ := u b _ e nf
    exact ⟨sl', e2⟩
  refine ⟨⟨fun b o q n hb _ => f.st b o (kept b o q n hb), fun b o q _ hb _ => slot b o q hb, un.free, fun b o q _ => ?_, un.tups, un.frzs, un.tbls⟩, fun b o e => ?_, f.ff, kept, fun b o q n => ?_, has, x.nt⟩
  · by_cases hb : b ∈ frs l'
    · obtain ⟨sl, e⟩ := slot b o q hb
      exact ⟨_, e⟩
    · obtain ⟨o', e⟩ := has b o q hb
      exact ⟨o', f.st b o' e⟩
  · refine (x.hok b o e).stay (fun c v hc q => f.st c v (x.trk c v q ?_)) (fun _ q => q) fun _ _ q => q
    rcases hc with rfl | z
    · rw [e]; simp
    · rw [z]; simp
  · cases e : H' b with
    | none => exact absurd e n
    | some o1 =>
      obtain ⟨v, ev⟩ := (x.hok b o1 e).ob
      have eB := x.trk b v ev n
      have e2 := f.st b v eB
      rw [q] at e2
      cases e2
      exact eB
def CX1 (P : Program) (w : World) : CXT := fun outer H s E e s' => ∃ a cls B H', e = .ref a ∧ s'.os = s.os ∧ AllBare s'.gens ∧ Fy P w outer H H' s.heap s'.heap B a ∧ Fl B outer a cls .none s'.heap ∧ E cls none H'
theorem pass1E {P : Program} {w : World} {X : Cx} : Passes (CX1 P w) X E0 := fun _ _ _ _ _ _ _ ⟨_, _, _, _, _, _, _, _, _, q⟩ => q.elim
section
variable {P : Program} {w : World} {K : PySem.W.Frag} {mg : Str → Option Value} {base : Heap} {N : List Str} {qual : Str} {scope : Scope} {f : Addr} {cd : Value} {A : Around} {outer : List Env} {s : Shared} {H : Hp} {E E' : XK}
theorem frs_new (hs : ∀ b o, s.heap.get? b = some o → b ≠ s.heap.objs.size) : ∀ b o, s.heap.get? b = some o → b ∉ frs outer → b ∉ frs (envOfC qual scope s.heap.objs.size f cd :: outer) := fun b o q hb z => by
  have z : b ∈ s.heap.objs.size :: frs outer := z
  rcases List.mem_cons.mp z with e | e
  · exact hs b o q e
  · exact hb e
theorem frs_sub : ∀ b ∈ frs outer, b ∈ frs (envOfC qual scope s.heap.objs.size f cd :: outer) := fun b hb => (show b ∈ s.heap.objs.size :: frs outer from List.mem_cons_of_mem _ hb)
theorem pass1 (h : ∀ c d H', E' c d H' → E c d H') : Passes (CX1 P w) (cxOf (CX1 P w) P w K mg base N qual scope f cd A outer s H E) E' := by
  rintro pins σ H1 s1 e s' I ⟨a, cls, B, H', rfl, os, bare, x, fl, q⟩
  show wpAny (model P w) _ (leaving (envOfC qual scope s.heap.objs.size f cd) (.ref a)) _ _ s'
  refine leave_next I.ok.frames rfl fl fun h2 fl2 u => ⟨a, cls, B, H', rfl, os.trans I.os, bare, ?_, fl2, h _ _ _ q⟩
  exact Fy.on I.base x frs_sub (frs_new fun b o q => Nat.ne_of_lt (Heap.lt_size q)) I.ok.frf fl2 u
theorem made1 {pins : List (Addr × Obj)} {σ : St} {H1 : Hp} {s1 : Shared} {h2 : Heap} {e : Addr} {cls : Value} {vs : List Value} (I : Inv (cxOf (CX1 P w) P w K mg base N qual scope f cd A outer s H E) pins σ H1 s1) (hx : Heap.MadeExcOf s1.heap h2 e cls vs) (q : E cls none H1) :
    (cxOf (CX1 P w) P w K mg base N qual scope f cd A outer s H E).xe (.ref e) { s1 with heap := h2 } := by
  show wpAny (model P w) _ (leaving (envOfC qual scope s.heap.objs.size f cd) (.ref e)) _ _ _
  obtain ⟨t, he, _, _⟩ := hx.there
  have st : (PySem.W.hideAll s1.heap (frs (envOfC qual scope s.heap.objs.size f cd :: outer))).StaysIn s1.heap := fun b o q => PySem.W.of_hideAll _ q
  have ff : s1.heap.FunFrames (PySem.W.hideAll s1.heap (frs (envOfC qual scope s.heap.objs.size f cd :: outer))) (envOfC qual scope s.heap.objs.size f cd :: outer) := PySem.W.funFrames_hide I.stack fun env he b hb => List.mem_filterMap.mpr ⟨env, he, hb⟩
  have ff2 := ff.of_keeps (h' := h2) fun b o hb _ => ⟨o, hx.keeps b o hb, rfl⟩
  have nt : H1 e = none := by
    cases z : H1 e with
    | none => rfl
    | some o =>
      obtain ⟨u, eu⟩ := (I.hok e o z).ob
      have := hx.new
      rw [eu] at this
      cases this
  have ne : (PySem.W.hideAll s1.heap (frs (envOfC qual scope s.heap.objs.size f cd :: outer))).get? e = none := by
    cases z : (PySem.W.hideAll s1.heap (frs (envOfC qual scope s.heap.objs.size f cd :: outer))).get? e with
    | none => rfl
    | some o =>
      have := st e o z
      rw [hx.new] at this
      cases this
  refine leave_first I.ok.frames rfl (fun b o q => hx.keeps b o (st b o q)) ne ff2 he rfl rfl rfl rfl fun h3 fl u => ⟨e, cls, _, H1, rfl, I.os, I.bare, ?_, fl, q⟩
  refine Fy.on (h' := h2) I.base ⟨Un.kept hx.keeps, I.hok.kept hx.keeps, ff2, fun b o q _ hb => PySem.W.hideAll_get _ q hb, fun b o q n => ?_, fun b o q hb => ⟨o, PySem.W.hideAll_get _ q hb⟩, nt⟩ frs_sub (frs_new fun b o q => Nat.ne_of_lt (Heap.lt_size q)) I.ok.frf fl u
  cases z : H1 b with
  | none => exact absurd z n
  | some o1 =>
    obtain ⟨v, ev⟩ := (I.hok b o1 z).ob
    have e2 := hx.keeps b v ev
    rw [q] at e2
    cases e2
    exact PySem.W.hideAll_get _ ev fun m => by have := I.stkFree b m; rw [z] at this; cases this
end
end L2
namespace L2
open PySem PySem.Spec PyProof.Rows PySem.W
structure XC (K : PySem.W.Frag) (C : Addr) : Prop where
  ga : findIn K (.ref C) "__getattribute__" = some (some (.builtin "BaseException.__getattribute__"))
  gn : findIn K (.ref C) "__getattr__" = some none
  cl : findIn K (.ref C) "__class__" = some (some (.builtin "object.__class__"))
  gt : specialIn K (.builtin "object.__class__") "__get__" = some (some (.builtin "getset_descriptor.__get__"))
  tk : takesIn K (.builtin "object.__class__") = some true
  mo : mroIn K C (.type "object") = some true
  mb : mroIn K C (.type "BaseException") = some true
  cs : (clsIn K C).isSome = true
  ex : excIn K C [.type "ValueError", .type "Exception", .type "BaseException", .type "object"] "ValueError.__new__" = true
  kp : keepIn K (.ref C) = true
section
variable {prog : Program} {w : World} {A : Around} {E : Value → Shared → Prop} {s : Shared} {K : Frag} {x C : Addr} {ox : Obj}
theorem xc_find (c : XC K C) : findObj K C none "__class__" = some (.bind (.builtin "getset_descriptor.__get__") (.builtin "object.__class__")) := by
  obtain ⟨cd, hc⟩ := Option.isSome_iff_exists.mp c.cs
  unfold findObj
  rw [hc, Option.bind_some, c.cl, Option.bind_some]
  simp [c.gt, c.tk]
theorem xc_entry {tk : Tok} {Q : PySem.Fin → Shared → Prop} (X : K.In s.heap) (I : InstAt s.heap x ox C none) (c : XC K C) (h : Q (.done (.ret (.ref C))) s) :
    wpAny (model prog w) A (Builtin.«object.__getattribute__» ⟨[.ref x, .str "__class__" tk], []⟩) Q E s := by
  have L0 := I.type (M := model prog w)
  have L1 := looks_find (M := model prog w) X I (xc_find c)
  obtain ⟨hh, g, d, t, os⟩ := s
  refine wpAny_bind (wpAny_pure (wpAny_bind (wpAny_pure (wpAny_bind (L0.at (wpAny_bind (L1.at ?_)))))))
  show wpAny _ _ (Builtin.ObjectAttr.bindTo _ _ _ _) _ _ _
  unfold Builtin.ObjectAttr.bindTo
  refine wpAny_bind (wpAny_holding (wpAny_call (class_get X I c.mo ?_)))
  exact wpAny_pure h
theorem xc_check {nv : Value} {Q : Unit → Shared → Prop} {M : Model} (X : K.In s.heap) (I : InstAt s.heap x ox C none) (c : XC K C) (h : Q () s) : wpAny M A (checkBuiltinCall "BaseException.__getattribute__" ⟨[.ref x, nv], []⟩) Q E s := by
  have hk : builtinKind "BaseException.__getattribute__" = some .slot := by decide +kernel
  have hsplit : splitId "BaseException.__getattribute__" = some ("BaseException", "__getattribute__") := by decide +kernel
  have ha := PySem.F.args_bexc_ga (.ref x) nv
  have L0 := I.type (M := M)
  have L1 := looks_mroIn (M := M) X c.mb
  obtain ⟨hh, g, d, t, os⟩ := s
  simp only [checkBuiltinCall, hk, hsplit]
  unfold isInstance
  repeat (first | lk | wp_step)
  exact h
theorem xc_by {tk : Tok} {Q : Value → Shared → Prop} (X : K.In s.heap) (I : InstAt s.heap x ox C none) (c : XC K C) (h : Q (.ref C) s) : wpAny (model prog w) A (getAttrBy (.ref x) (.str "__class__" tk) false) Q E s := by
  have L0 := I.type (M := model prog w)
  have L1 := looks_findIn (M := model prog w) X c.ga
  have L2 := looks_findIn (M := model prog w) X c.gn
  have hb : bindSpecial (.builtin "BaseException.__getattribute__") (.ref x) = pure (.builtin "BaseException.__getattribute__", [.ref x]) := PySem.F.excAttr_ValueError.ga.bind (.ref x)
  obtain ⟨hh, g, d, t, os⟩ := s
  unfold getAttrBy
  refine wpAny_holding (wpAny_bind (L0.at (wpAny_bind (L1.at ?_))))
  show wpAny _ _ (getAttrByItsOwn _ _ _ _ _ _) _ _ _
  unfold getAttrByItsOwn
  refine wpAny_bind (m := hookBefore _) (L2.at ?_)
  refine wpAny_bind (wpAny_attempt (wpAny_holding ?_))
  show wpAny _ _ (boundAndCalled _ _ _) _ _ _
  unfold boundAndCalled
  rw [hb]
  refine wpAny_bind (wpAny_pure ?_)
  refine wpAny_call (codeAny_call_builtin PySem.F.excAttr_ValueError.ga.plain PySem.F.entry_bexc_ga (xc_check X I c (xc_entry X I c ?_)))
  exact handed_on rfl h
theorem xc_attr {Q : Option Value → Shared → Prop} (X : K.In s.heap) (I : InstAt s.heap x ox C none) (c : XC K C) (h : Q (some (.ref C)) { s with toks := s.toks + 1 }) : wpAny (model prog w) A (getAttr? (.ref x) "__class__") Q E s := by
  unfold getAttr? getAttrBy?
  refine wpAny_bind (wpAny_mkText (wpAny_bind (wpAny_attempt (xc_by (s := { s with toks := s.toks + 1 }) X I c ?_))))
  exact wpAny_pure h
theorem kitx_exc (c : XC K C) : KitX K (.ref x) (.ref C) (fun h => InstAt h x ox C none) where
  ty := fun _ _ _ I => I.type
  it := fun _ _ X _ => by
    obtain ⟨cd, hc⟩ := Option.isSome_iff_exists.mp c.cs
    unfold clsIn at hc
    split at hc
    · rename_i ho
      intro A' Q' E' s' k q
      unfold isType loadHead
      exact wpAny_bind (wpAny_loadPart (k _ _ (X _ _ ho)) (wpAny_pure q))
    · cases hc
  ne := fun h tp dd its n sl X htp => by
    obtain ⟨cd, hc⟩ := Option.isSome_iff_exists.mp c.cs
    refine Bool.eq_false_iff.mpr fun q => ?_
    cases Value.ref.inj (beq_iff_eq.mp q)
    unfold clsIn at hc
    split at hc
    · rename_i ho
      cases (X _ _ ho).symm.trans htp
    · cases hc
  ca := fun X I k => xc_attr X I c k
end
def xO (a C : Addr) : HO := .ext fun h => ∃ oe vs, h.get? a = some oe ∧ oe.cls = .ref C ∧ oe.dict = none ∧ oe.data = .fields vs ∧ vs[2]? = some .none
def rIsiX (K : PySem.W.Frag) : List V → Hp → VK → Prop := fun xs H Q => ∃ a C c cv b, xs = [.ref a, c] ∧ H a = some (xO a C) ∧ XC K C ∧ ((∃ n, c = .ty n ∧ cv = .type n) ∨ (∃ d, c = .ref d ∧ cv = .ref d)) ∧ PySem.W.kitOne K (.ref C) cv = some b ∧ Q (.bl b) H
theorem call_isiX {X : Cx} : CallR X (.builtin "isinstance") (rIsiX X.K) := by
  intro pins s σ H xs us Q I r h
  obtain ⟨a, C, c, cv, b, rfl, ha, xc, hc, e, q⟩ := h
  obtain ⟨u, w', rfl, ru, rc⟩ := vals2 r
  have hw : w' = cv := by
    rcases hc with ⟨n, rfl, rfl⟩ | ⟨a, rfl, rfl⟩
    · exact rc
    · exact rc
  subst hw
  cases (show u = Value.ref a from ru)
  obtain ⟨⟨oe, vs, h1, h2, h3, h4, h5⟩, _⟩ := (show ObjOk X.prog X.w H s.heap a (xO a C) from I.hok a _ ha)
  refine PySem.W.kia_one (kitx_exc (ox := oe) xc) I.kIn ⟨h1, h2, ?_, ?_⟩ e (fun z => nomatch z) fun tk => ⟨.bl b, H, I.tok tk, rfl, q⟩
  · unfold notCls
    rw [h4]
  · rw [h3]
    trivial
end L2
namespace L2
open PySem PySem.Spec PyProof.Rows PySem.W
def Makes (X : Cx) (E : XK) : Prop := ∀ (pins : List (Addr × Obj)) (σ : St) (H : Hp) (s : Shared) (h' : Heap) (e : Addr) (cls : Value) (vs : List Value), Inv X pins σ H s → Heap.MadeExcOf s.heap h' e cls vs → E cls none H → X.xe (.ref e) { s with heap := h' }
theorem makes1 {P : Program} {w : World} {K : PySem.W.Frag} {mg : Str → Option Value} {base : Heap} {N : List Str} {qual : Str} {scope : Scope} {f : Addr} {cd : Value} {A : Around} {outer : List Env} {s : Shared} {H : Hp} {E : XK} :
    Makes (cxOf (CX1 P w) P w K mg base N qual scope f cd A outer s H E) E := fun _ _ _ _ _ _ _ _ I hx q => made1 I hx q
def tRaise (C : Addr) (E : XK) (t : TA) : TS := fun _ σ H => t σ H fun vs H1 => vs.length ≤ sizeLine ∧ E (.ref C) none H1
theorem ps_raise {X : Cx} {C : Addr} {x : Str} {E : XK} {e₀ : Expr} {rest : List Expr} {t : TA} {np cpos pos : Pos} (xc : XC X.K C) (hc : X.calm = true) (hg : Gl X x) (hm : X.mg x = some (.ref C)) (mk : Makes X E) (ha : PA X (e₀ :: rest) t)
    (he : starEach (e₀ :: rest) X.env = (false, eval e₀ X.env) :: starEach rest X.env := by rfl) (hpl : (backTo cpos (starEach rest X.env)).any (·.1) = false := by rfl) (hdb : (x == ("__debug__" : Str)) = false := by decide) :
    PS X (.Raise (some (.Call (.Name x np) (e₀ :: rest) [] cpos)) none pos) (tRaise C E t) := by
  intro pins s σ H D I h
  have q := xc.ex
  unfold excIn at q
  split at q
  · rename_i dd cd sl ho
    split at q
    · rename_i C' bm k0 k1 k2 k3 n k5 hm' hs
      simp only [Bool.and_eq_true, beq_iff_eq, Bool.not_eq_true'] at q
      obtain ⟨⟨⟨⟨⟨rfl, rfl⟩, hdel⟩, ht⟩, hok⟩, hni⟩ := q
      obtain ⟨nm, bs, mro, ns, qn, hd, sn, sub, ab, col, del⟩ := cd
      dsimp only at hm' hdel hok hni
      subst hm' hdel
      have hsl : sl = #[k0, k1, k2, k3, some (.builtin "ValueError.__new__"), k5] := by
        obtain ⟨l⟩ := sl
        simp only at hs
        rw [hs]
      subst hsl
      have hN : X.base.Ns ns _ := .of_isNs (isNs_of_in I.ok.mod.kin hok)
      refine wpAny_Raise_call_subT (C := C') (nm := nm) (q := qn) (N := ns) (bs := bs) (bm := bm) (hdct := hd) (sn := sn) (sub := sub) (ab := ab) (col := col) (dd := dd) (k0 := k0) (k1 := k1) (k2 := k2) (k3 := k3) (k5 := k5) PySem.F.excBase_ValueError (mN := X.base.nsMap ns)
        ((tail_of_in I.ok.mod.kin ht).hasType PySem.F.excBase_ValueError.hasBase) (I.ok.hd hc) (by rw [he]; show (false || (backTo cpos (starEach rest X.env)).any (·.1)) = false; rw [hpl]; rfl) (nsMap_none_of_in I.ok.mod.kin hok hni) (ld_glob I hg hm ⟨rfl, ?_⟩ hdb)
      have z := ha cpos pins s σ H _ I h
      rw [he] at z ⊢
      refine Calls.evalArgs_plain (wpAny_mono z (fun us s2 ⟨vs, H2, I2, r, l, q⟩ => ⟨rfl, ?_, I2.bk _ _ (I2.ok.mod.kin _ _ ho), hN.keeps I2.bk, (tail_of_in I.ok.mod.kin ht).keeps I2.bk, fun h' e hx => mk _ _ _ _ _ _ _ _ I2 hx q⟩) fun _ _ y => y)
      rw [← r.length]
      exact l
    · cases q
  · cases q
abbrev Cx.tries (X : Cx) (pn : List (Addr × Obj)) (xe : Value → Shared → Prop) : Cx := { X with pn := pn, xe := xe }
abbrev Cx.caught (X : Cx) (a : Addr) : Cx := { X with A := X.A.mark (some (.ref a)), calm := false, xe := fun _ _ => False }
section
variable {X : Cx} {pins : List (Addr × Obj)} {σ : St} {H : Hp} {s : Shared}
theorem Cx.Ok.tries (ok : X.Ok) {pn : List (Addr × Obj)} {xe : Value → Shared → Prop} : (X.tries pn xe).Ok := ⟨ok.mod, ok.kind, ok.glob, ok.blt, ok.above, ok.inj, ok.has, ok.cab, ok.hd, ok.frames, ok.stk, ok.exf, ok.bs, ok.bsz, ok.noex, ok.exfs, ok.funs, ok.frf⟩
theorem Cx.Ok.untries {pn : List (Addr × Obj)} {xe : Value → Shared → Prop} (ok : (X.tries pn xe).Ok) : X.Ok := ⟨ok.mod, ok.kind, ok.glob, ok.blt, ok.above, ok.inj, ok.has, ok.cab, ok.hd, ok.frames, ok.stk, ok.exf, ok.bs, ok.bsz, ok.noex, ok.exfs, ok.funs, ok.frf⟩
theorem Cx.Ok.caught (ok : X.Ok) (a : Addr) : (X.caught a).Ok := ⟨ok.mod, ok.kind, ok.glob, ok.blt, ok.above, ok.inj, ok.has, ok.cab, (fun z => nomatch z), ok.frames, ok.stk, ok.exf, ok.bs, ok.bsz, ok.noex, ok.exfs, ok.funs, ok.frf⟩
theorem Inv.tries (I : Inv X pins σ H s) (xe : Value → Shared → Prop) : Inv (X.tries (X.pn ++ pins) xe) [] σ H s := ⟨I.ok.tries, I.os, I.bare, I.base, I.loc, I.cell, I.free, I.freeC, fun p hp => I.pin p (by simpa using hp), I.hok, I.len⟩
theorem Inv.untries {xe : Value → Shared → Prop} {pins' : List (Addr × Obj)} (I : Inv (X.tries (X.pn ++ pins) xe) pins' σ H s) : Inv X pins σ H s := ⟨I.ok.untries, I.os, I.bare, I.base, I.loc, I.cell, I.free, I.freeC, fun p hp => I.pin p (List.mem_append_left _ hp), I.hok, I.len⟩
theorem Inv.caught (I : Inv X pins σ H s) (a : Addr) : Inv (X.caught a) pins σ H s := ⟨I.ok.caught a, I.os, I.bare, I.base, I.loc, I.cell, I.free, I.freeC, I.pin, I.hok, I.len⟩
theorem Inv.uncaught {a : Addr} (ok : X.Ok) (I : Inv (X.caught a) pins σ H s) : Inv X pins σ H s := ⟨ok, I.os, I.bare, I.base, I.loc, I.cell, I.free, I.freeC, I.pin, I.hok, I.len⟩
theorem Inv.nones (I : Inv X pins σ H s) : Inv X pins (List.replicate X.N.length none) H s := I.weak (by rw [List.length_replicate, I.len]) fun i v e => by
  rw [List.getElem?_replicate] at e
  split at e <;> cases e
theorem Inv.reframed {h' : Heap} {m' : Str → Option Value} {t' : Nat} (I : Inv X pins σ H s) (hn : h'.Ns X.env.locals m') (sb : Heap.SameBut X.env.locals s.heap h') : Inv X pins (List.replicate X.N.length none) H { s with heap := h', toks := t' } := by
  have neL : ∀ b o, X.s₀.heap.get? b = some o → b ≠ X.env.locals := fun b o e => Nat.ne_of_lt (Nat.lt_of_lt_of_le (Heap.lt_size e) I.ok.above)
  have eq : ∀ b, b ≠ X.env.locals → h'.get? b = s.heap.get? b := fun b hb => sb.2 b hb
  have neT : ∀ b o, H b = some o → b ≠ X.env.locals := fun b o e z => by rw [z, I.free] at e; cases e
  refine ⟨I.ok, I.os, I.bare, ⟨fun b o q n hb hx => (eq b (neL b o q)).trans (I.base.keep b o q n hb hx), fun b o q n hb hx => ?_, I.base.free, fun b o q hx => ?_, I.base.tups, I.base.frzs, I.base.tbls⟩, ⟨m', hn, fun i x v _ e => ?_⟩, fun x c e => ?_, I.free, I.freeC, fun p hp => ?_, fun b o e => ?_, List.length_replicate ..⟩
  · obtain ⟨sl, e⟩ := I.base.slot b o q n hb hx
    exact ⟨sl, (eq b (neL b o q)).trans e⟩
  · obtain ⟨o', e⟩ := I.base.there b o q hx
    exact ⟨o', (eq b (neL b o q)).trans e⟩
  · rw [List.getElem?_replicate] at e
    split at e <;> cases e
  · obtain ⟨v, o, h1, h2⟩ := I.cell x c e
    refine ⟨v, o, (eq c fun z => ?_).trans h1, h2⟩
    obtain ⟨m, ⟨o', es, ep, h3, h4, _⟩, _⟩ := I.loc
    rw [z, h3] at h1
    cases h1
    rw [h4] at h2
    cases h2
  · obtain ⟨h1, h2, h3, h4⟩ := I.pin p hp
    exact ⟨(eq p.1 h3).trans h1, h2, h3, h4⟩
  · refine (I.hok b o e).stay (fun c u hc q => (eq c ?_).trans q) (fun _ q => q) fun _ _ q => q
    rcases hc with rfl | z
    · exact neT _ _ e
    · exact neT _ _ z
def tTry (E : XK) (K : PySem.W.Frag) (C0 : Addr) (i len : Nat) (tb : TS) (ts : Addr → TS) : TS := fun D σ H => tb D σ H ∧ ∀ c H', E c none H' → ∃ C, c = .ref C ∧ exmOne K (.ref C) (.ref C0) = some true ∧
  ∀ a, H' a = none → ts a { nx := fun _ H2 => D.nx (List.replicate len none) H2, rt := D.rt, bk := fun _ H2 => D.bk (List.replicate len none) H2, ct := fun _ H2 => D.ct (List.replicate len none) H2 } ((List.replicate len none).set i (some (.ref a))) (upd H' a (xO a C))
theorem xO_ok {P : Program} {w : World} {H : Hp} {h : Heap} {a C : Addr} {oe : Obj} {vs : Array Value} (h1 : h.get? a = some oe) (h2 : oe.cls = .ref C) (h3 : oe.dict = none) (h4 : oe.data = .fields vs) (h5 : vs[2]? = some .none) : ObjOk P w H h a (xO a C) :=
  ⟨⟨oe, vs, h1, h2, h3, h4, h5⟩, ⟨oe, h1⟩, fun _ _ ⟨oe, vs, q, r⟩ k => ⟨oe, vs, k _ q, r⟩⟩
theorem ps_try {C0 : Addr} {body suite : List Stmt} {b₀ : Stmt} {n x : Str} {i : Nat} {np hpos pos : Pos} {tb : TS} {ts : Addr → TS} (E : XK) (st : X.stack = X.env :: X.outer) (hf : X.env.frame = some X.env.locals) (hlo : X.env.kindOf n = some .local)
    (nd : X.N.Nodup) (hi : X.N[i]? = some n) (hg : Gl X x) (hm : X.mg x = some (.ref C0)) (hb : ∀ pn xe, Passes (CX1 X.prog X.w) (X.tries pn xe) E → PSs (X.tries pn xe) body tb) (hs : ∀ a, PSs (X.caught a) (b₀ :: suite) (ts a)) (hdb : (x == ("__debug__" : Str)) = false := by decide) :
    PS X (.Try body [.ExceptHandler (some (.Name x np)) (some n) (b₀ :: suite) hpos] [] [] pos) (tTry E X.K C0 i X.N.length tb ts) := by
  intro pins s σ H D I ⟨h1, h2⟩
  refine wpAny_Try_except ?_
  refine wpAny_mono (hb (X.pn ++ pins) _ ?_ [] s σ H D (I.tries _) h1) (fun f s1 q => ?_) fun e s1 q => q
  · rintro pins' σ' H1 s1 e s' I1 ⟨a, cls, B, H', rfl, os, bare, y, fl, q⟩
    have I2 : Inv X pins (List.replicate X.N.length none) H1 s1 := I1.untries.nones
    obtain ⟨C, rfl, ex, hr⟩ := h2 _ _ q
    have hr := hr a y.nt
    have fr : X.A.frames = some (X.env :: X.outer) := I.ok.frames.trans (congrArg some st)
    have y : Fy X.prog X.w X.stack H1 H' s1.heap s'.heap B a := y
    have fl : Fl B X.stack a (.ref C) .none s'.heap := fl
    have new : s1.heap.get? a = none := by
      cases z : s1.heap.get? a with
      | none => rfl
      | some o =>
        by_cases m : a ∈ frs X.stack
        · obtain ⟨_, o', e1, nf⟩ := fl.ff.mem m
          obtain ⟨oe, vs, _, _, _, e2, _, _, e3, _⟩ := fl.ob
          rw [e1] at e2
          cases e2
          exact absurd e3 (nf vs)
        · obtain ⟨o', e'⟩ := y.has a o z m
          rw [fl.ne] at e'
          cases e'
    have fl0 := fl
    rw [st] at fl0
    refine note_next fr hf fl0 fun h4 f4 u4 => flight_off f4 fun h5 f5 u5 => ?_
    rw [← st] at f5
    have y5 := Fy.on Un.refl y (fun _ z => z) (fun _ _ _ z => z) I2.stkFree f5 (u4.trans u5)
    have I5 : Inv X pins (List.replicate X.N.length none) H' { s' with heap := h5 } := I2.call' (ch := []) os y5.un y5.hok bare (fun b z => absurd z (by simp))
    refine wpAny_handleBy_cons (codeAny_handlers_test ?_) (by intro z; cases z)
    refine ld_glob (I5.caught a) hg hm ?_ hdb
    obtain ⟨oe, vs, T, oT, ts5, e1, e2, e3, e4, e5, e6, e7⟩ := f5.ob
    refine (exm_one (I5.kIn) (e2 ▸ (Looks.ld e1).andThen .now) ex).at ?_
    refine codeAny_handlers_suite_as (flight_off f5 fun h6 f6 u6 => ?_)
    have y6 := Fy.on Un.refl y5 (fun _ z => z) (fun _ _ _ z => z) I2.stkFree f6 u6
    obtain ⟨o6, vs6, T6, oT6, ts6, g1, g2, g3, g4, g5, g6, g7⟩ := f6.ob
    have nea : ∀ b o, H' b = some o → b ≠ a := fun b o z w => by rw [w, y6.nt] at z; cases z
    have I6 : Inv X pins (List.replicate X.N.length none) (upd H' a (xO a C)) { s' with heap := h6 } := by
      refine I2.call' (ch := []) os ⟨y6.un.keep, y6.un.slot, fun b o z n hx => ?_, y6.un.there, fun b xs z => ?_, fun b o u z => ?_, fun b ps z => ?_⟩ (fun b o z => ?_) bare (fun b z => absurd z (by simp))
      · rw [upd_ne (fun w => by rw [w, new] at z; cases z)]
        exact y6.un.free b o z n hx
      · have := y6.un.tups b xs z
        rw [upd_ne (nea b _ this)]
        exact this
      · have := y6.un.frzs b o u z
        rw [upd_ne (nea b _ this)]
        exact this
      · obtain ⟨m, e⟩ := y6.un.tbls b ps z
        exact ⟨m, by rw [upd_ne (nea b _ e)]; exact e⟩
      · by_cases w : b = a
        · subst w
          rw [upd_same] at z
          cases z
          exact xO_ok g1 g2 g3 g4 g6
        · rw [upd_ne w] at z
          exact (y6.hok b o z).stay (fun _ _ _ q => q) (fun c q => by rw [upd_ne (nea c _ q)]; exact q) fun c xs q => by rw [upd_ne (nea c _ q)]; exact q
    refine store_ok (X := X.caught a) (I6.caught a) nd hi (.inl hlo) (show RelV (.ref a) (Value.ref a) from rfl) (fun s7 I7 => ?_) (.inr hlo)
    refine wpAny_mono (hs a pins s7 _ _ _ I7 hr) (fun f s8 q8 => ?_) fun _ _ z => z.elim
    have fin : ∀ {σ8 H8}, Inv (X.caught a) pins σ8 H8 s8 → (∀ s9, Inv X pins (List.replicate X.N.length none) H8 s9 → SP X pins D f s9) → wpAny (model X.prog X.w) X.A (do bindName X.env n .none; unbindBehindTheSuite X.env n hpos) (fun _ s9 => SP X pins D f s9) X.xe s8 := fun {σ8 H8} J k => by
      obtain ⟨m8, n8, _⟩ := J.loc
      exact wpAny_nameGoes hlo n8 (by rw [I.ok.kind]; rfl) fun h9 m9 n9 sb => k _ ((J.uncaught I.ok).reframed n9 sb)
    cases f with
    | next => obtain ⟨σ8, H8, J, q⟩ := q8; exact fin J fun s9 J9 => ⟨_, H8, J9, q⟩
    | brk => obtain ⟨σ8, H8, J, q⟩ := q8; exact fin J fun s9 J9 => ⟨_, H8, J9, q⟩
    | cont => obtain ⟨σ8, H8, J, q⟩ := q8; exact fin J fun s9 J9 => ⟨_, H8, J9, q⟩
    | ret u => obtain ⟨v, σ8, H8, J, r, q⟩ := q8; exact fin J fun s9 J9 => ⟨v, _, H8, J9, r, q⟩
  · cases f with
    | next => obtain ⟨σ', H', J, q⟩ := q; exact wpAny_execs_nil ⟨σ', H', J.untries, q⟩
    | brk => obtain ⟨σ', H', J, q⟩ := q; exact ⟨σ', H', J.untries, q⟩
    | cont => obtain ⟨σ', H', J, q⟩ := q; exact ⟨σ', H', J.untries, q⟩
    | ret u => obtain ⟨v, σ', H', J, r, q⟩ := q; exact ⟨v, σ', H', J.untries, r, q⟩
end
section
variable {P : Program} {w : World} {K : PySem.W.Frag} {mg : Str → Option Value} {base : Heap}
structure DefX (P : Program) (w : World) (K : PySem.W.Frag) (mg : Str → Option Value) (base : Heap) (k : Nat) (x : Str) (ps : List Str) (sp : Sp) : Prop where
  ex : ∃ (f : Addr) (fd : FuncData), mg x = some (.ref f) ∧ PySem.W.keepIn K (.ref f) = true ∧ Binds K fd ps [] ∧ FnOk P w K mg base (CX1 P w) k f fd ps sp
theorem Src.okX {x : Str} {st : Stmt} {N ps : List Str} {k : Nat} {sp : Sp} (S : Src K mg x st ps) (sc : FnScope N ps (defScope st)) (len : ∀ vs H Q E, sp vs H Q E → vs.length = ps.length)
    (hbody : ∀ (f : Addr) (cdv : Value) (A : Around) (outer : List Env) (s : Shared) (H : Hp) (vs : List V) (Q : VK) (E : XK), Room k (A.deeper (envOfC x (defScope st) s.heap.objs.size f cdv)) → sp vs H Q E →
      ∃ t, PSs (cxOf (CX1 P w) P w K mg base N x (defScope st) f cdv A outer s H E) (defBody st) t ∧ t { nx := fun _ H' => Q .non H', rt := Q } (start N vs) H) : DefX P w K mg base (k + 1) x ps sp := by
  obtain ⟨f, fd, h1, h2, h3⟩ := S.ex
  obtain ⟨oc, od, kV, doc, pm, an, cdv, ct, osl, rfl, lk, hcd⟩ := h2.ex
  exact ⟨f, _, h1, h2.kp, h3, fn_of lk hcd sc len fun A outer s H vs Q E hr hsp => hbody f cdv A outer s H vs Q E hr hsp⟩
theorem DefX.mono {x : Str} {ps : List Str} {sp : Sp} {j k : Nat} (D : DefX P w K mg base j x ps sp) (h : j ≤ k) : DefX P w K mg base k x ps sp := by
  obtain ⟨f, fd, h1, h2, h3, h4⟩ := D.ex
  exact ⟨f, fd, h1, h2, h3, h4.mono h⟩
end
theorem pe_callX {X : Cx} {k : Nat} {x : Str} {ps : List Str} {sp : Sp} {E : XK} {p pos : Pos} {e : Expr} {es : List Expr} {t : TA} (D : DefX X.prog X.w X.K X.mg X.base k x ps sp) (hr : Room k X.A) (hg : Gl X x) (hx : Passes (CX1 X.prog X.w) X E) (ha : PA X (e :: es) t)
    (hdb : (x == ("__debug__" : Str)) = false := by decide) (he : starEach (e :: es) X.env = (false, eval e X.env) :: starEach es X.env := by rfl) (hpl : (backTo pos (starEach es X.env)).any (·.1) = false := by rfl) :
    PE X (.Call (.Name x p) (e :: es) [] pos) (tCall sp [] E t) := by
  obtain ⟨f, fd, h1, h2, h3, h4⟩ := D.ex
  exact pe_call h4 hr hg h1 h2 h3 .nil hx ha hdb he hpl
end L2
namespace L2
open PySem PySem.Spec PyProof.Rows
end L2
namespace L2
open PySem PySem.Spec PyProof.Rows
section
variable {M : Model} {A : Around} {E : Value → Shared → Prop} {s : Shared} {B : Heap} {env : Env} {outer l : List Env} {L e : Addr} {cls fl : Value} {Q : Unit → Shared → Prop}
theorem note_again (hf : env.frame = some L) (x : Fl B l e cls (rawInt L) s.heap) (k : Q () s) : wpAny M A (noteFrame (.ref e) env) Q E s := by
  obtain ⟨st, ne, ff, oe, vs, T, oT, ts, he, hc, hdn, hd, h1, h2, hB, hTe, hT, hdT, h3⟩ := x
  unfold noteFrame
  simp only [hf]
  refine wpAny_bind (wpAny_field he hd h1 ?_)
  rw [if_pos (by simp)]
  refine wpAny_bind (wpAny_field hT hdT h3 ?_)
  rw [if_pos (by simp)]
  exact wpAny_pure k
theorem flight_on (x : Fl B l e cls fl s.heap) (k : ∀ h', Fl B l e cls (rawInt L) h' → s.heap.UpToSlots h' → Q () { s with heap := h' }) : wpAny M A (setFlight (.ref e) (some L)) Q E s := by
  obtain ⟨st, ne, ff, oe, vs, T, oT, ts, he, hc, hdn, hd, h1, h2, hB, hTe, hT, hdT, h3⟩ := x
  have sz := (Array.getElem?_eq_some_iff.mp h3).1
  have hnr : ∀ b o, s.heap.get? b = some o → (∀ vs, o.data ≠ .fields vs) → b ≠ T := fun b o hb nf z => by
    subst z
    rw [hT] at hb
    cases hb
    exact nf ts hdT
  unfold setFlight
  refine wpAny_bind (wpAny_field he hd h1 ?_)
  rw [if_pos (by simp)]
  refine wpAny_setField hT hdT sz ?_
  have hd' := Obj.data_mapFields hdT (·.setIfInBounds 3 (rawInt L))
  have oth : ∀ b, b ≠ T → (s.heap.update T (Obj.mapFields (·.setIfInBounds 3 (rawInt L)))).get? b = s.heap.get? b := fun b hb => Heap.get?_update_other _ _ (Ne.symm hb)
  refine k _ ⟨fun b o hb => (oth b fun z => by subst z; rw [hB] at hb; cases hb).trans (st b o hb), ne, ff.of_keeps fun b o hb nf => ⟨o, (oth b (hnr b o hb nf)).trans hb, rfl⟩, ?_⟩ fun b o hb nf => ⟨o.slots, (oth b (hnr b o hb nf)).trans hb⟩
  exact ⟨oe, vs, T, _, _, (oth e (Ne.symm hTe)).trans he, hc, hdn, hd, h1, h2, hB, hTe, Heap.get?_update_self _ hT (Obj.isFreed_of_fields hd'), hd', by simp [sz]⟩
theorem leave_held (hf : env.frame = some L) (x : Fl B (env :: outer) e cls (rawInt L) s.heap) (k : ∀ h', Fl B outer e cls .none h' → s.heap.UpToSlots h' → Q () { s with heap := h' }) : wpAny M A (leaving env (.ref e)) Q E s := by
  unfold leaving
  exact wpAny_bind (note_again hf x (flight_off x fun h2 x2 u2 => k h2 ⟨x2.st, x2.ne, x2.ff.2.2, x2.ob⟩ u2))
end
structure New (B : Heap) (a : Addr) (cls : Value) (h : Heap) : Prop where
  st : B.StaysIn h
  ne : B.get? a = none
  ob : ∃ oe vs, h.get? a = some oe ∧ oe.cls = cls ∧ oe.dict = none ∧ oe.data = .fields vs ∧ vs[1]? = some .none ∧ vs[2]? = some .none
def XE1 (P : Program) (w : World) (env : Env) (outer : List Env) (L : Addr) (H0 : Hp) (s0 : Shared) (E : XK) : Value → Shared → Prop := fun e s' => ∃ a cls B H1 h1 H', e = .ref a ∧ s'.os = s0.os ∧ AllBare s'.gens ∧ Un (frs outer) [] H0 H1 s0.heap h1 ∧ (∀ b ∈ frs (env :: outer), H1 b = none) ∧
  Fy P w (env :: outer) H1 H' h1 s'.heap B a ∧ E cls none H' ∧ (New B a cls s'.heap ∨ Fl B (env :: outer) a cls .none s'.heap ∨ Fl B (env :: outer) a cls (rawInt L) s'.heap)
section
variable {P : Program} {w : World} {K : PySem.W.Frag} {mg : Str → Option Value} {base : Heap} {N : List Str} {qual : Str} {scope : Scope} {f : Addr} {cd : Value} {A : Around} {outer : List Env} {s : Shared} {H : Hp} {E E' : XK}
abbrev cxL (P : Program) (w : World) (K : PySem.W.Frag) (mg : Str → Option Value) (base : Heap) (N : List Str) (qual : Str) (scope : Scope) (f : Addr) (cd : Value) (A : Around) (outer : List Env) (s : Shared) (H : Hp) (E : XK) : Cx :=
  (cxOf (CX1 P w) P w K mg base N qual scope f cd A outer s H E).wish (XE1 P w (envOfC qual scope s.heap.objs.size f cd) outer s.heap.objs.size H s E)
theorem xe_leaves (frf : ∀ b ∈ frs outer, H b = none) (fr : (A.deeper (envOfC qual scope s.heap.objs.size f cd)).frames = some (envOfC qual scope s.heap.objs.size f cd :: outer)) {e : Value} {s' : Shared} (h : XE1 P w (envOfC qual scope s.heap.objs.size f cd) outer s.heap.objs.size H s E e s') :
    (cxOf (CX1 P w) P w K mg base N qual scope f cd A outer s H E).xe e s' := by
  obtain ⟨a, cls, B, H1, h1, H', rfl, os, bare, bs, fre, y, q, st⟩ := h
  show wpAny (model P w) _ (leaving (envOfC qual scope s.heap.objs.size f cd) (.ref a)) _ _ s'
  have fin : ∀ h2, Fl B outer a cls .none h2 → s'.heap.UpToSlots h2 → CX1 P w outer H s E (.ref a) { s' with heap := h2 } := fun h2 fl2 u => ⟨a, cls, B, H', rfl, os, bare, Fy.on bs y frs_sub (frs_new fun b o q => Nat.ne_of_lt (Heap.lt_size q)) frf fl2 u, fl2, q⟩
  rcases st with st | st | st
  · obtain ⟨oe, vs, e1, e2, e3, e4, e5, e6⟩ := st.ob
    subst e2
    exact leave_first fr rfl st.st st.ne y.ff e1 e3 e4 e5 e6 fin
  · exact leave_next fr rfl st fin
  · exact leave_held rfl st fin
theorem xe_own (fr : (A.deeper (envOfC qual scope s.heap.objs.size f cd)).frames = some (envOfC qual scope s.heap.objs.size f cd :: outer)) :
    PassesOwn (model P w) (A.deeper (envOfC qual scope s.heap.objs.size f cd)) (envOfC qual scope s.heap.objs.size f cd) (XE1 P w (envOfC qual scope s.heap.objs.size f cd) outer s.heap.objs.size H s E) := by
  rintro e s' ⟨a, cls, B, H1, h1, H', rfl, os, bare, bs, fre, y, q, st⟩
  show wpAny _ _ (noteFrame (.ref a) (envOfC qual scope s.heap.objs.size f cd)) _ _ s'
  have fin : ∀ h2, Fl B (envOfC qual scope s.heap.objs.size f cd :: outer) a cls (rawInt s.heap.objs.size) h2 → s'.heap.UpToSlots h2 →
      cameBackBy (model P w) (A.deeper (envOfC qual scope s.heap.objs.size f cd)) (envOfC qual scope s.heap.objs.size f cd) (XE1 P w (envOfC qual scope s.heap.objs.size f cd) outer s.heap.objs.size H s E) (.ref a) { s' with heap := h2 } := fun h2 f2 u => by
    obtain ⟨oe, vs, T, oT, ts, he, hc, hdn, hd, e1, e2, hB, hTe, hT, hdT, e3⟩ := id f2.ob
    refine wpAny_bind (wpAny_field he hd e1 ?_)
    rw [if_neg (by simp)]
    refine flight_on f2 fun h3 f3 u3 => ⟨a, cls, B, H1, h1, H', rfl, os, bare, bs, fre, ?_, q, .inr (.inr f3)⟩
    exact Fy.on Un.refl y (fun _ z => z) (fun _ _ _ z => z) fre f3 (u.trans u3)
  rcases st with st | st | st
  · obtain ⟨oe, vs, e1, e2, e3, e4, e5, e6⟩ := st.ob
    subst e2
    exact note_first fr rfl st.st st.ne y.ff e1 e3 e4 e5 e6 fin
  · exact note_next fr rfl st fin
  · exact note_again rfl st (fin _ st (Heap.UpToSlots.refl _))
theorem passL (h : ∀ c d H', E' c d H' → E c d H') : Passes (CX1 P w) (cxL P w K mg base N qual scope f cd A outer s H E) E' := by
  rintro pins σ H1 s1 e s' I ⟨a, cls, B, H', rfl, os, bare, x, fl, q⟩
  exact ⟨a, cls, B, H1, s1.heap, H', rfl, os.trans I.os, bare, I.base, I.stkFree, x, h _ _ _ q, .inr (.inl fl)⟩
theorem makesL : Makes (cxL P w K mg base N qual scope f cd A outer s H E) E := by
  intro pins σ H1 s1 h2 e cls vs I hx q
  obtain ⟨t, he, _, _⟩ := hx.there
  have st : (PySem.W.hideAll s1.heap (frs (envOfC qual scope s.heap.objs.size f cd :: outer))).StaysIn s1.heap := fun b o q => PySem.W.of_hideAll _ q
  have ff : s1.heap.FunFrames (PySem.W.hideAll s1.heap (frs (envOfC qual scope s.heap.objs.size f cd :: outer))) (envOfC qual scope s.heap.objs.size f cd :: outer) := PySem.W.funFrames_hide I.stack fun env he b hb => List.mem_filterMap.mpr ⟨env, he, hb⟩
  have ff2 := ff.of_keeps (h' := h2) fun b o hb _ => ⟨o, hx.keeps b o hb, rfl⟩
  have nt : H1 e = none := by
    cases z : H1 e with
    | none => rfl
    | some o =>
      obtain ⟨u, eu⟩ := (I.hok e o z).ob
      have := hx.new
      rw [eu] at this
      cases this
  have ne : (PySem.W.hideAll s1.heap (frs (envOfC qual scope s.heap.objs.size f cd :: outer))).get? e = none := by
    cases z : (PySem.W.hideAll s1.heap (frs (envOfC qual scope s.heap.objs.size f cd :: outer))).get? e with
    | none => rfl
    | some o =>
      have := st e o z
      rw [hx.new] at this
      cases this
  refine ⟨e, cls, _, H1, s1.heap, H1, rfl, I.os, I.bare, I.base, I.stkFree, ⟨Un.kept hx.keeps, I.hok.kept hx.keeps, ff2, fun b o q _ hb => PySem.W.hideAll_get _ q hb, fun b o q n => ?_, fun b o q hb => ⟨o, PySem.W.hideAll_get _ q hb⟩, nt⟩, q, .inl ⟨fun b o q => hx.keeps b o (st b o q), ne, _, _, he, rfl, rfl, rfl, rfl, rfl⟩⟩
  cases z : H1 b with
  | none => exact absurd z n
  | some o1 =>
    obtain ⟨v, ev⟩ := (I.hok b o1 z).ob
    have e2 := hx.keeps b v ev
    rw [q] at e2
    cases e2
    exact PySem.W.hideAll_get _ ev fun m => by have := I.stkFree b m; rw [z] at this; cases this
theorem Src.okL {x : Str} {st : Stmt} {N ps : List Str} {k : Nat} {sp : Sp} (S : Src K mg x st ps) (sc : FnScope N ps (defScope st)) (len : ∀ vs H Q E, sp vs H Q E → vs.length = ps.length)
    (hbody : ∀ (f : Addr) (cdv : Value) (A : Around) (outer : List Env) (s : Shared) (H : Hp) (vs : List V) (Q : VK) (E : XK), Room k (A.deeper (envOfC x (defScope st) s.heap.objs.size f cdv)) → sp vs H Q E →
      ∃ t, (PassesOwn (model P w) (A.deeper (envOfC x (defScope st) s.heap.objs.size f cdv)) (envOfC x (defScope st) s.heap.objs.size f cdv) (cxL P w K mg base N x (defScope st) f cdv A outer s H E).xe → PSs (cxL P w K mg base N x (defScope st) f cdv A outer s H E) (defBody st) t) ∧ t { nx := fun _ H' => Q .non H', rt := Q } (start N vs) H) : DefX P w K mg base (k + 1) x ps sp := by
  obtain ⟨f, fd, h1, h2, h3⟩ := S.ex
  obtain ⟨oc, od, kV, doc, pm, an, cdv, ct, osl, rfl, lk, hcd⟩ := h2.ex
  refine ⟨f, _, h1, h2.kp, h3, fn_of lk hcd sc len fun A outer s H vs Q E hr hsp => ?_⟩
  obtain ⟨t, hp, ht⟩ := hbody f cdv A outer s H vs Q E hr hsp
  refine ⟨t, fun pins s1 σ H1 D I hw => ?_, ht⟩
  have fr : (A.deeper (envOfC x (defScope st) s.heap.objs.size f cdv)).frames = some (envOfC x (defScope st) s.heap.objs.size f cdv :: outer) := I.ok.frames
  exact wpAny_mono (hp (xe_own fr) pins s1 σ H1 D (I.wish _) hw) (fun _ _ q => q.unwish) fun e s' z => xe_leaves I.ok.frf fr z
end
end L2
namespace L2
open PySem PySem.Spec PyProof.Rows
structure FnAt (P : Program) (w : World) (K : PySem.W.Frag) (mg : Str → Option Value) (base : Heap) (k : Nat) (f : Addr) (ps : List Str) (sp : Sp) : Prop where
  ex : ∃ fd : FuncData, PySem.W.keepIn K (.ref f) = true ∧ Binds K fd ps [] ∧ FnOk P w K mg base (CX1 P w) k f fd ps sp
theorem DefX.at {P : Program} {w : World} {K : PySem.W.Frag} {mg : Str → Option Value} {base : Heap} {k : Nat} {x : Str} {ps : List Str} {sp : Sp} (D : DefX P w K mg base k x ps sp) : ∃ f, mg x = some (.ref f) ∧ FnAt P w K mg base k f ps sp := by
  obtain ⟨f, fd, h1, h2, h3, h4⟩ := D.ex
  exact ⟨f, h1, fd, h2, h3, h4⟩
theorem FnOk.cx {P : Program} {w : World} {K : PySem.W.Frag} {mg : Str → Option Value} {base : Heap} {CX : CXT} {k : Nat} {f : Addr} {fd : FuncData} {ps : List Str} {sp : Sp} (F : FnOk P w K mg base CX0 k f fd ps sp) : FnOk P w K mg base CX k f fd ps sp :=
  ⟨F.len, fun A outer s H args us vs Q E hr e0 hb r h => codeAny_mono (F.run A outer s H args us vs Q E hr e0 hb r h) fun res s' q => by
    cases res with
    | error e => exact False.elim q
    | ok fl => cases fl <;> exact q⟩
theorem Def.x {P : Program} {w : World} {K : PySem.W.Frag} {mg : Str → Option Value} {base : Heap} {k : Nat} {x : Str} {ps : List Str} {sp : Sp} (D : Def P w K mg base k x ps sp) : DefX P w K mg base k x ps sp := by
  obtain ⟨f, fd, h1, h2, h3, h4⟩ := D.ex
  exact ⟨f, fd, h1, h2, h3, h4.cx⟩
def tCallV (P : Program) (w : World) (K : PySem.W.Frag) (mg : Str → Option Value) (base : Heap) (k : Nat) (E : XK) (tf : TE) (t : TA) : TE := fun σ H Q => tf σ H fun v H1 => ∃ f ps sp, v = .ref f ∧ FnAt P w K mg base k f ps sp ∧ t σ H1 fun vs H2 => sp vs H2 Q E
theorem call_sub_eq (a b : Expr) (p1 : Pos) (args : List Expr) (pos : Pos) (env : Env) : eval (.Call (.Subscript a b p1) args [] pos) env = (do
    let g ← eval (.Subscript a b p1) env
    callWith pos g [] (backTo pos (starEach args env)) (backToKw pos (keywordEach [] env))) := rfl
theorem pe_callS {X : Cx} {k : Nat} {E : XK} {a b : Expr} {p1 pos : Pos} {e : Expr} {es : List Expr} {tf : TE} {t : TA} (hf : PE X (.Subscript a b p1) tf) (hr : Room k X.A) (hx : Passes (CX1 X.prog X.w) X E) (ha : PA X (e :: es) t)
    (he : starEach (e :: es) X.env = (false, eval e X.env) :: starEach es X.env := by rfl) (hpl : (backTo pos (starEach es X.env)).any (·.1) = false := by rfl) :
    PE X (.Call (.Subscript a b p1) (e :: es) [] pos) (tCallV X.prog X.w X.K X.mg X.base k E tf t) := by
  intro pins s σ H Q I h
  rw [call_sub_eq]
  refine wpAny_bind (thn (hf pins s σ H _ I h) fun u s1 ⟨v, H1, I1, rv, f, ps, sp, ev, ⟨fd, hk, hb, F⟩, q⟩ => ?_)
  subst ev
  cases rv
  refine PySem.W.callWith_K (h₀ := X.base) I.ok.mod.kin hk (thn (ha pos pins s1 σ H1 _ I1 q) fun us s2 ⟨vs, H2, I2, r, q2⟩ => ⟨I2.kIn, ?_⟩) he hpl
  exact run_fn F hr hb .nil hx I2 r (by rw [List.append_nil]; exact q2)
end L2
namespace L2
open PySem PySem.Spec PyProof.Rows
theorem strsAre_of : ∀ {ys : List Str} {us : List Value}, Vals (ys.map V.str) us → StrsAre us ys
  | [], _, .nil => .nil
  | y :: ys, _, .cons r t => by
    obtain ⟨tk, rfl⟩ := r
    exact .cons y tk (strsAre_of t)
def rJoin (K : PySem.W.Frag) : V → List V → Hp → VK → Prop := fun x vs H Q => ∃ (z : Str) (a : Addr) (ys : List Str), x = .str z ∧ vs = [.ref a] ∧ SqL K H a (ys.map V.str) ∧ (ys.map (·.length)).sum + ys.length * z.length ≤ 16777216 ∧ Q (.str (Txt.join z ys)) H
theorem mt_join {X : Cx} : MtR X "str.join" (rJoin X.K) := by
  intro pins s σ H x xs v us Q I rx rv h
  obtain ⟨z, a, ys, rfl, rfl, hq, hz, q⟩ := h
  obtain ⟨tk, rfl⟩ := rx
  obtain ⟨u, rfl, ru⟩ := vals1 rv
  cases ru
  obtain ⟨its, r1, p1, _⟩ := I.list hq
  exact join_list p1.isList (by simpa using strsAre_of r1) hz fun t' k => ⟨.str _, H, I.tok k, ⟨t', rfl⟩, q⟩
def repS (z : Str) (n : Nat) : Str := ⟨(List.replicate n z.cps).foldl (· ++ ·) #[]⟩
theorem rep_size (a : Array Nat) : ∀ (n : Nat) (b : Array Nat), ((List.replicate n a).foldl (· ++ ·) b).size = b.size + n * a.size
  | 0, b => by simp
  | n + 1, b => by
    rw [List.replicate_succ, List.foldl_cons, rep_size a n, Array.size_append, Nat.succ_mul]
    omega
theorem repS_len (z : Str) (n : Nat) : (repS z n).length = n * z.length := by
  show ((List.replicate n z.cps).foldl (· ++ ·) #[]).size = n * z.cps.size
  rw [rep_size]
  simp
theorem op_mulS {X : Cx} : OpR X (binaryOp .Mult) (fun x y H Q => ∃ (z : Str) (n : Nat), x = .str z ∧ y = .int (n : Int) ∧ z.length ≤ 16 ∧ n ≤ 10000 ∧ Q (.str (repS z n)) H) := by
  intro pins s σ H x y v u Q I rx ry h
  obtain ⟨z, n, rfl, rfl, hz, hn, q⟩ := h
  obtain ⟨t1, rfl⟩ := rx
  obtain ⟨t2, rfl⟩ := ry
  have hm : z.length * n ≤ 160000 := Nat.le_trans (Nat.mul_le_mul hz hn) (by decide)
  refine P.mul_str ?_ (fun h1 _ => ?_) (fun _ _ => ?_) ?_
  · rw [decide_eq_false (by omega), decide_eq_false (by omega)]
    rfl
  · have h2 : ((z.length : Nat) : Int) ≤ (2 ^ 63 - 1 : Int) / (n : Int) := Int.le_ediv_of_mul_le (by omega) (by
      have : (((z.length * n : Nat)) : Int) ≤ 160000 := by omega
      rw [Int.natCast_mul] at this
      omega)
    omega
  · rw [Int.toNat_natCast]
    exact decide_eq_false (by show ¬ z.length * n > sizeLine; have : sizeLine = 16777216 := rfl; omega)
  · have fin : ∀ (tk k : Nat), EP X pins σ Q (.str (repS z n) tk) { s with toks := k } := fun tk k => ⟨.str _, H, I.tok k, ⟨tk, rfl⟩, q⟩
    by_cases c1 : (n : Int) < 1
    · rw [if_pos c1]
      obtain rfl : n = 0 := by omega
      exact ⟨by decide, fin _ _⟩
    · rw [if_neg c1]
      by_cases c2 : ((n : Int) == 1 || z.length == 0) = true
      · rw [if_pos c2]
        have e : repS z n = z := by
          rcases Bool.or_eq_true_iff.mp c2 with w | w
          · have : n = 1 := by have := beq_iff_eq.mp w; omega
            subst this
            show (⟨#[] ++ z.cps⟩ : Str) = z
            simp
          · have w : z.cps = #[] := Array.size_eq_zero_iff.mp (beq_iff_eq.mp w)
            unfold repS
            rw [w]
            have : ∀ m : Nat, (List.replicate m (#[] : Array Nat)).foldl (· ++ ·) #[] = #[] := fun m => by
              induction m with
              | zero => rfl
              | succ m ih => rw [List.replicate_succ, List.foldl_cons]; simpa using ih
            rw [this]
            cases z
            cases w
            rfl
        have q2 := fin t1 s.toks
        rw [e] at q2
        exact q2
      · rw [if_neg c2]
        refine ⟨?_, fin _ _⟩
        show (repS z n).length ≤ sizeLine
        rw [repS_len]
        have : sizeLine = 16777216 := rfl
        rw [Nat.mul_comm] at hm
        omega
end L2
namespace L2
open PySem PySem.Spec PyProof.Rows
def Its (z : Str) : It := ⟨fun i _ => i < z.cps.size, fun i H x H' => H' = H ∧ ∃ c, z.cps[i]? = some c ∧ x = .str ⟨#[c]⟩, fun i _ => i = z.cps.size⟩
theorem turn_str {P : Program} {w : World} {K : PySem.W.Frag} {tg : Expr} (it : Addr) (ty : String) (z : Str) (t : Tok) (hty : ["enumerate", "zip", "dict_itemiterator", "dict_reverseitemiterator", "odict_iterator", "itertools.zip_longest", "itertools.pairwise"].contains ty = false)
    (W : ∀ A : Around, A.handled = none → Walks P w A it [it] [it] z.cps.size (SignAt z) (fun i h => h.IsStrIter it ty z t i))
    (S : ∀ (A : Around) (i : Nat) (s : Shared) (Q : Value → Shared → Prop) (E : Value → Shared → Prop), s.heap.IsStrIter it ty z t i → Q (.ref it) s → wpAny (model P w) A (pyIter (.ref it)) Q E s) : Turn P w K tg (Its z) [it] it (fun i h => h.IsStrIter it ty z t i) where
  mem := by simp
  obj := fun i h st b hb => by
    have e : b = it := by simpa using hb
    subst e
    obtain ⟨o, e, c, d⟩ := st
    exact ⟨o, e, fun v y => by rw [d] at y; cases y⟩
  keep := fun i h h' st k => let ⟨o, e, r⟩ := st; ⟨o, k it (by simp) o e, r⟩
  item := by
    intro X hP hw hK hc i pins s σ H E I hf st hg
    subst hP hw hK
    obtain ⟨f0, f1, f2, f3, f4, f5⟩ := hf it (by simp)
    refine (W X.A (I.ok.hd hc)).item i s _ _ hg st fun v h' tk hv st' kk => ?_
    obtain ⟨c, u, hc', rfl⟩ := hv
    have I1 : Inv X pins σ H { s with heap := h', toks := tk } := I.turned (fun b o hb e => kk b o (by simpa using hb) e) f0 f1 f3 f4 f5
    obtain ⟨o, e, c1, d1⟩ := id st'
    exact ⟨_, rfl, go_of (s := { s with heap := h', toks := tk }) e c1 d1 hty ⟨.str ⟨#[c]⟩, H, I1, ⟨u, rfl⟩, ⟨rfl, c, hc', rfl⟩, st', fun b hb => (hf b hb).1⟩⟩
  done := by
    intro X hP hw hK hc i pins s σ H E I hf st hg
    subst hP hw hK
    obtain ⟨f0, f1, f2, f3, f4, f5⟩ := hf it (by simp)
    have hg : i = z.cps.size := hg
    subst hg
    exact (W X.A (I.ok.hd hc)).done s _ _ st fun h' tk kk => ⟨rfl, I.turned (fun b o hb e => kk b o (by simpa using hb) e) f0 f1 f3 f4 f5⟩
  self := S
def iStr (tl : TE) : TI := fun σ H R => tl σ H fun x H1 => ∃ z, x = .str z ∧ R (Its z) H1
theorem pi_str {X : Cx} {tg l : Expr} {tl : TE} (hl : PE X l tl) : PI X tg l (iStr tl) := by
  intro pins s σ H R I h
  refine thn (hl pins s σ H _ I h) fun v s1 ⟨x, H1, I1, r1, z, e, q⟩ => ?_
  subst e
  obtain ⟨t, rfl⟩ := r1
  have fp : ∀ (o : Obj), ∀ b ∈ [s1.heap.objs.size], FpOk X pins H1 b := fun o b hb => by
    have e : b = s1.heap.objs.size := by simpa using hb
    subst e
    exact I1.fpOk (Nat.le_refl _) (I1.hok.fresh (Nat.le_refl _))
  cases ha : z.cps.all (· < 128)
  · refine wpAny_pyIter_wide ha ?_
    exact ⟨s1.heap.objs.size, [s1.heap.objs.size], _, _, H1, rfl, I1.kept (t' := s1.toks) fun b o e => Heap.get?_push_of_some _ e, turn_str _ "str_iterator" z t (by decide) (fun A hA => Walks.strWide hA _ z t) (fun A i s Q E st hq => wpAny_pyIter_striter_wide st hq), ⟨_, Heap.get?_push_size _ rfl, rfl, rfl⟩, fp default, q⟩
  · refine wpAny_pyIter_ascii ha ?_
    exact ⟨s1.heap.objs.size, [s1.heap.objs.size], _, _, H1, rfl, I1.kept (t' := s1.toks) fun b o e => Heap.get?_push_of_some _ e, turn_str _ "str_ascii_iterator" z t (by decide) (fun A hA => Walks.strAscii hA _ z t) (fun A i s Q E st hq => wpAny_pyIter_striter_ascii st hq), ⟨_, Heap.get?_push_size _ rfl, rfl, rfl⟩, fp default, q⟩
theorem for_str {z : Str} {g : TG} {tb : TS} {D : Ends} {σ : St} {H : Hp} (Pv : Nat → St → Hp → Prop) (h0 : Pv 0 σ H) (hs : ∀ i c σ H, z.cps[i]? = some c → Pv i σ H → g (.str ⟨#[c]⟩) σ H fun σ2 H2 => tb { D with nx := Pv (i + 1), ct := Pv (i + 1), bk := D.nx } σ2 H2)
    (hd : ∀ σ H, Pv z.cps.size σ H → D.nx σ H) : ∃ W : Nat → Nat → St → Hp → Prop, (∃ m, W 0 m σ H) ∧ ∀ i m σ H, W i m σ H →
      ((Its z).stop i H ∧ D.nx σ H) ∨ ((Its z).go i H ∧ ∃ N : St → Hp → Prop, (∀ σ' H', N σ' H' → ∃ m', m' < m ∧ W (i + 1) m' σ' H') ∧ ∀ x H', (Its z).yld i H x H' → g x σ H' fun σ2 H2 => tb { D with nx := N, ct := N, bk := D.nx } σ2 H2) := by
  refine ⟨fun i m σ H => m = z.cps.size - i ∧ i ≤ z.cps.size ∧ Pv i σ H, ⟨z.cps.size, by simp, Nat.zero_le _, h0⟩, ?_⟩
  rintro i m σ H ⟨rfl, hi, p⟩
  by_cases c : i < z.cps.size
  · refine .inr ⟨c, Pv (i + 1), fun σ' H' q => ⟨z.cps.size - (i + 1), by omega, rfl, c, q⟩, fun x H' hy => ?_⟩
    obtain ⟨rfl, ch, hc, rfl⟩ := hy
    exact hs i ch σ _ hc p
  · have e : i = z.cps.size := by omega
    subst e
    exact .inl ⟨rfl, hd σ H p⟩
end L2
namespace L2
open PySem PySem.Spec PyProof.Rows
structure ZAp (z TI TO i1 i2 : Addr) (f1 f2 : List Addr) : Prop where
  a1 : TI ≠ z
  a2 : TO ≠ z
  a3 : i1 ≠ z
  a4 : i2 ≠ z
  a5 : TI ≠ TO
  a6 : TI ≠ i1
  a7 : TI ≠ i2
  a8 : TO ≠ i1
  a9 : TO ≠ i2
  a10 : i1 ≠ i2
  z1 : z ∉ f1
  z2 : z ∉ f2
  o1 : TO ∉ f1
  o2 : TO ∉ f2
  j1 : i2 ∉ f1
  j2 : i1 ∉ f2
section
variable {prog : Program} {w : World} {A : Around} {E : Value → Shared → Prop} {s : Shared} {z TI TO i1 i2 : Addr} {f1 f2 : List Addr} {n i : Nat} {P1 P2 : Nat → Value → Prop} {S1 S2 : Nat → Heap → Prop} {a b : Value}
theorem drw_off (D : Draws prog w A i1 f1 n P1 S1) {g g' : Heap} {c : Addr} (h : S1 i g) (k : Heap.SameBut c g g') (hc : c ∉ f1) : S1 i g' :=
  D.frame i g g' h fun b hb o e => k.extBut b o (fun y => hc (y ▸ hb)) e
theorem zip_step {Q : Value → Shared → Prop} (D1 : Draws prog w A i1 f1 n P1 S1) (D2 : Draws prog w A i2 f2 n P2 S2) (Z : ZAp z TI TO i1 i2 f1 f2) (zz : IsZip s.heap z TI TO .none) (zi : IsPair s.heap TI (.ref i1) (.ref i2)) (zo : IsPair s.heap TO a b)
    (q1 : S1 i s.heap) (q2 : S2 i s.heap) (hi : i < n)
    (hQ : ∀ x y g tk, P1 i x → P2 i y → IsZip g z TI TO (rawInt s.heap.objs.size) → IsPair g TO x y → S1 (i + 1) g → S2 (i + 1) g → IsPair g s.heap.objs.size x y →
      (∀ c o, c ≠ z → c ≠ TO → c ≠ i1 → c ≠ i2 → s.heap.get? c = some o → g.get? c = some o) → Q (.ref s.heap.objs.size) { s with heap := g, toks := tk }) :
    wpAny (model prog w) A (Builtin.«zip.__next__» ⟨[.ref z], []⟩) (fun fin s' => ∃ v, fin = .done (.ret v) ∧ Q v s') E s := by
  show wpAny _ _ (field (.ref z) 2 >>= _) _ _ _
  refine wpAny_bind (wpAny_field zz rfl (x := .bool false) rfl ?_)
  show wpAny _ _ (field (.ref z) 3 >>= _) _ _ _
  refine wpAny_bind (wpAny_field zz rfl (x := .ref TI) rfl (wpAny_bind (wpAny_seqItems zi rfl ?_)))
  show wpAny _ _ (Builtin.SmallTypes.ownedTupleIsFree (.ref z) >>= _) _ _ _
  unfold Builtin.SmallTypes.ownedTupleIsFree
  refine wpAny_bind (wpAny_bind (wpAny_field zz rfl (x := .none) rfl (wpAny_pure ?_)))
  simp only [if_true]
  refine wpAny_bind (wpAny_rule (wpAny_bind (wpAny_field zz rfl (x := .ref TO) rfl (wpAny_bind (wpAny_setField_rec zz (by simp) fun g1 y1 k1 => ?_)))))
  replace y1 : IsZip g1 z TI TO .ellipsis := y1
  refine wpAny_bind ?_
  simp only [List.zipIdx_cons, List.zipIdx_nil, List.forIn_cons, List.forIn_nil]
  refine wpAny_bind (wpAny_bind (wpAny_onRaise ?_))
  show wpAny _ _ (Builtin.SmallTypes.nextOf (.ref i1) >>= _) _ _ _
  refine wpAny_bind (D1.item i _ _ _ hi (drw_off D1 q1 k1 Z.z1) fun x g2 tk2 px q12 k2 => wpAny_pure ?_)
  replace k2 : Heap.SameBut i1 g1 g2 := k2
  have t2 : IsPair g2 TO a b := k2.extBut _ _ Z.a8 (k1.extBut _ _ Z.a2 zo)
  refine wpAny_bind (wpAny_seqItems t2 rfl (wpAny_bind (wpAny_updateSeq_pair t2 fun g3 t3 k3 => wpAny_bind (wpAny_letGo (wpAny_pure ?_)))))
  replace t3 : IsPair g3 TO x b := t3
  refine wpAny_bind (wpAny_bind (wpAny_onRaise ?_))
  show wpAny _ _ (Builtin.SmallTypes.nextOf (.ref i2) >>= _) _ _ _
  have q23 : S2 i g3 := drw_off D2 (drw_off D2 (drw_off D2 q2 k1 Z.z2) k2 Z.j2) k3 Z.o2
  refine wpAny_bind (D2.item i _ _ _ hi q23 fun y g4 tk4 py q24 k4 => wpAny_pure ?_)
  replace k4 : Heap.SameBut i2 g3 g4 := k4
  have t4 : IsPair g4 TO x b := k4.extBut _ _ Z.a9 t3
  refine wpAny_bind (wpAny_seqItems t4 rfl (wpAny_bind (wpAny_updateSeq_pair t4 fun g5 t5 k5 => wpAny_bind (wpAny_letGo (wpAny_pure (wpAny_pure ?_))))))
  replace t5 : IsPair g5 TO x y := t5
  refine wpAny_bind (wpAny_seqItems t5 rfl (wpAny_bind (wpAny_newTuple ?_)))
  have sz : g5.objs.size = s.heap.objs.size := by rw [k5.1, k4.1, k3.1, k2.1, k1.1]
  have y5 : IsZip g5 z TI TO .ellipsis := k5.extBut _ _ Z.a2.symm (k4.extBut _ _ Z.a4.symm (k3.extBut _ _ Z.a2.symm (k2.extBut _ _ Z.a3.symm y1)))
  have old : ∀ c o, c ≠ z → c ≠ TO → c ≠ i1 → c ≠ i2 → s.heap.get? c = some o → g5.get? c = some o := fun c o c1 c2 c3 c4 e => k5.extBut _ _ c2 (k4.extBut _ _ c4 (k3.extBut _ _ c2 (k2.extBut _ _ c3 (k1.extBut _ _ c1 e))))
  have q15 : S1 (i + 1) g5 := drw_off D1 (drw_off D1 (drw_off D1 q12 k3 Z.o1) k4 Z.j1) k5 Z.o1
  have q25 : S2 (i + 1) g5 := drw_off D2 q24 k5 Z.o2
  have lz : z < g5.objs.size := Heap.lt_size y5
  show wpAny _ _ (Builtin.SmallTypes.ownedTupleHandOut (.ref z) (.ref g5.objs.size) >>= _) _ _ _
  unfold Builtin.SmallTypes.ownedTupleHandOut
  have y6 : IsZip (g5.push { cls := .type "tuple", data := .seq #[x, y] }) z TI TO .ellipsis := Heap.get?_push_of_some _ y5
  refine wpAny_bind (wpAny_bind (wpAny_setField_rec y6 (by simp) fun g7 y7 k7 => ?_))
  replace y7 : IsZip g7 z TI TO (rawInt g5.objs.size) := y7
  refine wpAny_setField_rec y7 (by simp) fun g8 y8 k8 => ?_
  replace y8 : IsZip g8 z TI TO (rawInt g5.objs.size) := y8
  have up : ∀ c o, c ≠ z → g5.get? c = some o → g8.get? c = some o := fun c o c1 e => k8.extBut _ _ c1 (k7.extBut _ _ c1 (Heap.get?_push_of_some _ e))
  have t8 : IsPair g8 g5.objs.size x y := k8.extBut _ _ (Nat.ne_of_gt lz) (k7.extBut _ _ (Nat.ne_of_gt lz) (Heap.get?_push_size _ rfl))
  rw [sz] at y8 t8
  refine wpAny_pure ⟨_, rfl, ?_⟩
  show Q (.ref g5.objs.size) _
  rw [sz]
  exact hQ x y g8 tk4 px py y8 (up _ _ Z.a2 t5) (D1.frame _ _ _ q15 fun b hb o e => up b o (fun y => Z.z1 (y ▸ hb)) e) (D2.frame _ _ _ q25 fun b hb o e => up b o (fun y => Z.z2 (y ▸ hb)) e) t8 fun c o c1 c2 c3 c4 e => up c o c1 (old c o c1 c2 c3 c4 e)
theorem zip_over {Q : Fin → Shared → Prop} (D1 : Draws prog w A i1 f1 n P1 S1) (Z : ZAp z TI TO i1 i2 f1 f2) (zz : IsZip s.heap z TI TO .none) (zi : IsPair s.heap TI (.ref i1) (.ref i2)) (q1 : S1 n s.heap)
    (hE : ∀ g e, (∀ c o, c ≠ z → c ≠ TO → c ≠ i1 → c ≠ i2 → s.heap.get? c = some o → g.get? c = some o) → (∃ o, g.get? e = some o ∧ o.cls = .type "StopIteration") → E (.ref e) { s with heap := g }) :
    wpAny (model prog w) A (Builtin.«zip.__next__» ⟨[.ref z], []⟩) Q E s := by
  show wpAny _ _ (field (.ref z) 2 >>= _) _ _ _
  refine wpAny_bind (wpAny_field zz rfl (x := .bool false) rfl ?_)
  show wpAny _ _ (field (.ref z) 3 >>= _) _ _ _
  refine wpAny_bind (wpAny_field zz rfl (x := .ref TI) rfl (wpAny_bind (wpAny_seqItems zi rfl ?_)))
  show wpAny _ _ (Builtin.SmallTypes.ownedTupleIsFree (.ref z) >>= _) _ _ _
  unfold Builtin.SmallTypes.ownedTupleIsFree
  refine wpAny_bind (wpAny_bind (wpAny_field zz rfl (x := .none) rfl (wpAny_pure ?_)))
  simp only [if_true]
  refine wpAny_bind (wpAny_rule (wpAny_bind (wpAny_field zz rfl (x := .ref TO) rfl (wpAny_bind (wpAny_setField_rec zz (by simp) fun g1 y1 k1 => ?_)))))
  replace y1 : IsZip g1 z TI TO .ellipsis := y1
  refine wpAny_bind ?_
  simp only [List.zipIdx_cons, List.zipIdx_nil, List.forIn_cons, List.forIn_nil]
  refine wpAny_bind (wpAny_bind (wpAny_onRaise ?_))
  show wpAny _ _ (Builtin.SmallTypes.nextOf (.ref i1) >>= _) _ _ _
  refine wpAny_bind (D1.done _ _ _ (drw_off D1 q1 k1 Z.z1) fun g2 e k2 he => ?_)
  obtain ⟨oe, e1, ce⟩ := he
  replace k2 : Heap.ExtBut i1 g1 g2 := k2
  have y2 : IsZip g2 z TI TO .ellipsis := k2 _ _ Z.a3.symm y1
  have ez : e ≠ z := fun x => by subst x; rw [y2] at e1; cases e1; simp at ce
  exact wpAny_setField_rec y2 (by simp) fun g3 _ k3 => hE g3 e (fun c o c1 _ c3 _ x => k3.extBut _ _ c1 (k2 _ _ c3 (k1.extBut _ _ c1 x))) ⟨oe, k3.extBut _ _ ez e1, ce⟩
end
section
variable {X : Cx} {pins : List (Addr × Obj)} {σ : St} {H : Hp} {s : Shared}
theorem Inv.turnL {ch : List Addr} {g : Heap} {tk : Nat} (I : Inv X pins σ H s) (hf : ∀ b ∈ ch, FpOk X pins H b) (kp : ∀ b o, b ∉ ch → s.heap.get? b = some o → g.get? b = some o) : Inv X pins σ H { s with heap := g, toks := tk } := by
  have nt : ∀ b o, H b = some o → b ∉ ch := fun b o q z => by rw [(hf b z).1] at q; cases q
  refine I.step (h' := g) (g' := s.gens) (d' := s.drawn) (t' := tk) (ch := ch) (fun b hb => ?_) (fun b o _ _ hc q _ => kp b o hc q) (fun b o _ _ hc q _ => ⟨o.slots, kp b o hc q⟩)
    (fun b o hc q nb => nb) (fun b o hc q => ⟨o, kp b o hc q⟩) (fun b ys q => q) (fun b o v q => q) (fun b ps q => ⟨#[], ?_⟩) (fun m hm => ?_) (fun b v q => ?_) I.bare
  · obtain ⟨f0, f1, f2, f3, f4, f5⟩ := hf b hb
    exact ⟨f3, f1, f4, f5⟩
  · rw [q]; simp
  · obtain ⟨o, es, ep, q, r⟩ := hm
    exact ⟨o, es, ep, kp _ o (fun z => (hf _ z).2.1 rfl) q, r⟩
  · refine (I.hok b v q).stay (fun d o hd qd => ?_) (fun d qd => qd) fun d ys qd => qd
    rcases hd with z | z
    · rw [z] at qd ⊢; exact kp b o (nt b _ q) qd
    · exact kp d o (nt d _ z) qd
theorem Inv.pairL {ch : List Addr} {g : Heap} {tk : Nat} {x y : V} {u v : Value} (I : Inv X pins σ H s) (hf : ∀ b ∈ ch, FpOk X pins H b) (kp : ∀ b o, b ∉ ch → s.heap.get? b = some o → g.get? b = some o)
    (tup : IsPair g s.heap.objs.size u v) (ru : RelV x u) (rv : RelV y v) : Inv X pins σ (upd H s.heap.objs.size (.tup [x, y])) { s with heap := g, toks := tk } := by
  have nt : ∀ b o, H b = some o → b ∉ ch := fun b o q z => by rw [(hf b z).1] at q; cases q
  have fr : H s.heap.objs.size = none := I.fresh
  have np : ∀ b o, H b = some o → b ≠ s.heap.objs.size := fun b o q z => by rw [z, fr] at q; cases q
  refine I.step (h' := g) (g' := s.gens) (d' := s.drawn) (t' := tk) (ch := ch) (fun b hb => ?_) (fun b o _ _ hc q _ => kp b o hc q) (fun b o _ _ hc q _ => ⟨o.slots, kp b o hc q⟩)
    (fun b o hc q nb => ?_) (fun b o hc q => ⟨o, kp b o hc q⟩) (fun b ys q => ?_) (fun b o v q => ?_) (fun b ps q => ⟨#[], ?_⟩) (fun m hm => ?_) (fun b v q => ?_) I.bare
  · obtain ⟨f0, f1, f2, f3, f4, f5⟩ := hf b hb
    exact ⟨f3, f1, f4, f5⟩
  · rw [upd_ne (adr_ne (Heap.lt_size q) (Nat.le_refl _))]; exact nb
  · rw [upd_ne (np b _ q)]; exact q
  · rw [upd_ne (np b _ q)]; exact q
  · rw [upd_ne (np b _ q), q]; simp
  · obtain ⟨o, es, ep, q, r⟩ := hm
    exact ⟨o, es, ep, kp _ o (fun z => (hf _ z).2.1 rfl) q, r⟩
  · by_cases z : b = s.heap.objs.size
    · subst z
      rw [upd_same] at q
      cases q
      exact ⟨by show (2 : Nat) ≤ sizeLine; decide, [_, _], .cons ru (.cons rv .nil), ⟨_, tup, rfl, _, rfl⟩⟩
    · rw [upd_ne z] at q
      refine (I.hok b v q).stay (fun d o hd qd => ?_) (fun d qd => by rw [upd_ne (np d _ qd)]; exact qd) fun d ys qd => by rw [upd_ne (np d _ qd)]; exact qd
      rcases hd with z | z
      · rw [z] at qd ⊢; exact kp b o (nt b _ q) qd
      · exact kp d o (nt d _ z) qd
end
inductive Zs where
  | lst (a : Addr)
  | str (z : Str)
def Zs.at (K : PySem.W.Frag) : Zs → Nat → Hp → V → Prop
  | .lst a, i, H, x => ∀ xs, SqL K H a xs → xs[i]? = some x
  | .str z, i, _, x => ∃ c, z.cps[i]? = some c ∧ x = .str ⟨#[c]⟩
def Zs.len (K : PySem.W.Frag) : Zs → Hp → Nat → Prop
  | .lst a, H, n => ∃ xs, SqL K H a xs ∧ xs.length = n
  | .str z, _, n => z.cps.size = n
def Zs.tn (t : Tok) (it : Addr) : Zs → Nat → Heap → Prop
  | .lst a, i, h => h.IsListIter it a i
  | .str z, i, h => h.IsStrIter it (strIterType z) z t i
theorem Zs.keep {S : Zs} {t : Tok} {it : Addr} {i : Nat} {h h' : Heap} (q : S.tn t it i h) (k : ∀ o, h.get? it = some o → h'.get? it = some o) : S.tn t it i h' := by
  cases S with
  | lst a => exact Heap.IsListIter.at q k
  | str z => exact let ⟨o, e, r⟩ := q; ⟨o, k o e, r⟩
theorem Zs.ob {S : Zs} {t : Tok} {it : Addr} {i : Nat} {h : Heap} (q : S.tn t it i h) : ∃ o, h.get? it = some o ∧ (∀ v, o.data ≠ .cell v) ∧ o.cls ≠ .type "list" := by
  cases S with
  | lst a =>
    obtain ⟨o, e, c, d⟩ := q
    exact ⟨o, e, (fun v y => by rw [d] at y; cases y), by rw [c]; decide⟩
  | str z =>
    obtain ⟨o, e, c, d⟩ := q
    refine ⟨o, e, (fun v y => by rw [d] at y; cases y), ?_⟩
    rw [c]
    unfold strIterType
    split <;> decide
theorem Zs.draws {X : Cx} {pins : List (Addr × Obj)} {σ : St} {H : Hp} {s : Shared} {S : Zs} {t : Tok} {it : Addr} {i n : Nat} (I : Inv X pins σ H s) (q : S.tn t it i s.heap) (hl : S.len X.K H n) :
    ∃ (f : List Addr) (P1 : Nat → Value → Prop) (S1 : Nat → Heap → Prop), (∀ A : Around, A.handled = none → Draws X.prog X.w A it f n P1 S1) ∧ S1 i s.heap ∧ (∀ j h, S1 j h → S.tn t it j h) ∧ (i < n → ∀ v, P1 i v → ∃ x, S.at X.K i H x ∧ RelV x v) ∧
      ∀ b ∈ f, b = it ∨ ∃ o, s.heap.get? b = some o ∧ o.cls = .type "list" := by
  cases S with
  | lst a =>
    obtain ⟨xs, hq, hx⟩ := hl
    obtain ⟨its, rv, p, hz⟩ := I.list hq
    have hn : its.toArray.size = n := by rw [List.size_toArray, ← rv.length]; exact hx
    have ne := list_ne_iter p.isList q
    refine ⟨[it, a], fun j v => its.toArray[j]? = some v, fun j h => h.IsListIter it a j ∧ h.IsList a its.toArray, fun A hA => hn ▸ Draws.list hA it a ne its.toArray, ⟨q, p.isList⟩, fun j h z => z.1, fun hi v hv => ?_, fun b hb => ?_⟩
    · have lt : i < xs.length := by rw [hx]; exact hi
      obtain ⟨u, hu, ru⟩ := rv.get (show xs[i]? = some xs[i] by simp [lt])
      have hv : its.toArray[i]? = some v := hv
      rw [List.getElem?_toArray, hu] at hv
      cases hv
      exact ⟨_, (fun ys hy => by rw [I.list_inj hy hq]; simp [lt]), ru⟩
    · rcases List.mem_cons.mp hb with z | z
      · exact .inl z
      · obtain ⟨o, e, c, _⟩ := p.isList
        exact .inr ⟨o, by rw [List.mem_singleton.mp z]; exact e, c⟩
  | str z =>
    have hl : z.cps.size = n := hl
    subst hl
    have q : s.heap.IsStrIter it (strIterType z) z t i := q
    cases ha : z.cps.all (· < 128)
    · have e : strIterType z = "str_iterator" := by unfold strIterType; rw [ha]; rfl
      rw [e] at q
      refine ⟨[it], _, _, fun A hA => Draws.strWide hA it z t, q, fun j h y => ?_, fun hi v hv => ?_, fun b hb => .inl (List.mem_singleton.mp hb)⟩
      · show h.IsStrIter it (strIterType z) z t j
        rw [e]; exact y
      · obtain ⟨c, u, hc, rfl⟩ := hv
        exact ⟨_, ⟨c, hc, rfl⟩, ⟨u, rfl⟩⟩
    · have e : strIterType z = "str_ascii_iterator" := by unfold strIterType; rw [ha]; rfl
      rw [e] at q
      refine ⟨[it], _, _, fun A hA => Draws.strAscii hA it z t, q, fun j h y => ?_, fun hi v hv => ?_, fun b hb => .inl (List.mem_singleton.mp hb)⟩
      · show h.IsStrIter it (strIterType z) z t j
        rw [e]; exact y
      · obtain ⟨c, u, hc, rfl⟩ := hv
        exact ⟨_, ⟨c, hc, rfl⟩, ⟨u, rfl⟩⟩
def Itz (K : PySem.W.Frag) (S1 S2 : Zs) (n : Nat) : It := ⟨fun i H => i < n ∧ S1.len K H n ∧ S2.len K H n, fun i H v H' => ∃ p x y, v = .ref p ∧ H p = none ∧ S1.at K i H x ∧ S2.at K i H y ∧ H' = upd H p (.tup [x, y]), fun i H => i = n ∧ S1.len K H n⟩
structure ZAd (z TI TO i1 i2 : Addr) : Prop where
  a1 : TI ≠ z
  a2 : TO ≠ z
  a3 : i1 ≠ z
  a4 : i2 ≠ z
  a5 : TI ≠ TO
  a6 : TI ≠ i1
  a7 : TI ≠ i2
  a8 : TO ≠ i1
  a9 : TO ≠ i2
  a10 : i1 ≠ i2
theorem ZAd.ap {h : Heap} {z TI TO i1 i2 : Addr} {f1 f2 : List Addr} {S1 S2 : Zs} {t1 t2 : Tok} {i : Nat} {v a b : Value} (Z : ZAd z TI TO i1 i2) (zz : IsZip h z TI TO v) (zo : IsPair h TO a b) (q1 : S1.tn t1 i1 i h) (q2 : S2.tn t2 i2 i h)
    (m1 : ∀ b ∈ f1, b = i1 ∨ ∃ o, h.get? b = some o ∧ o.cls = .type "list") (m2 : ∀ b ∈ f2, b = i2 ∨ ∃ o, h.get? b = some o ∧ o.cls = .type "list") : ZAp z TI TO i1 i2 f1 f2 := by
  have nz : ∀ o, h.get? z = some o → o.cls ≠ .type "list" := fun o e => by rw [zz] at e; cases e; show Value.type "zip" ≠ Value.type "list"; decide
  have no : ∀ o, h.get? TO = some o → o.cls ≠ .type "list" := fun o e => by rw [zo] at e; cases e; show Value.type "tuple" ≠ Value.type "list"; decide
  have n1 : ∀ o, h.get? i1 = some o → o.cls ≠ .type "list" := fun o e => by obtain ⟨o', e', _, c⟩ := Zs.ob q1; rw [e] at e'; cases e'; exact c
  have n2 : ∀ o, h.get? i2 = some o → o.cls ≠ .type "list" := fun o e => by obtain ⟨o', e', _, c⟩ := Zs.ob q2; rw [e] at e'; cases e'; exact c
  have out : ∀ {f : List Addr} {j c : Addr}, (∀ b ∈ f, b = j ∨ ∃ o, h.get? b = some o ∧ o.cls = .type "list") → c ≠ j → (∀ o, h.get? c = some o → o.cls ≠ .type "list") → c ∉ f := fun m hne hn y => by
    rcases m _ y with e | ⟨o, e, c⟩
    · exact hne e
    · exact hn o e c
  exact ⟨Z.a1, Z.a2, Z.a3, Z.a4, Z.a5, Z.a6, Z.a7, Z.a8, Z.a9, Z.a10, out m1 Z.a3.symm nz, out m2 Z.a4.symm nz, out m1 Z.a8 no, out m2 Z.a9 no, out m1 Z.a10.symm n2, out m2 Z.a10 n1⟩
theorem turn_zip {P : Program} {w : World} {K : PySem.W.Frag} {elts : List Expr} {x1 : Nat} {tp : Pos} (S1 S2 : Zs) (t1 t2 : Tok) (z TI TO i1 i2 : Addr) (n : Nat) (Z : ZAd z TI TO i1 i2) :
    Turn P w K (.Tuple elts x1 tp) (Itz K S1 S2 n) [z, TI, TO, i1, i2] z (fun i h => IsZip h z TI TO .none ∧ IsPair h TI (.ref i1) (.ref i2) ∧ (∃ a b, IsPair h TO a b) ∧ S1.tn t1 i1 i h ∧ S2.tn t2 i2 i h) where
  mem := by simp
  obj := fun i h st b hb => by
    obtain ⟨zz, zi, ⟨a', b', zo⟩, q1, q2⟩ := st
    simp only [List.mem_cons, List.not_mem_nil, or_false] at hb
    rcases hb with rfl | rfl | rfl | rfl | rfl
    · exact ⟨_, zz, fun v q => nomatch q⟩
    · exact ⟨_, zi, fun v q => nomatch q⟩
    · exact ⟨_, zo, fun v q => nomatch q⟩
    · obtain ⟨o, e, c, _⟩ := Zs.ob q1; exact ⟨o, e, c⟩
    · obtain ⟨o, e, c, _⟩ := Zs.ob q2; exact ⟨o, e, c⟩
  keep := fun i h h' ⟨zz, zi, ⟨a', b', zo⟩, q1, q2⟩ k => ⟨k z (by simp) _ zz, k TI (by simp) _ zi, ⟨a', b', k TO (by simp) _ zo⟩, Zs.keep q1 fun o e => k i1 (by simp) o e, Zs.keep q2 fun o e => k i2 (by simp) o e⟩
  item := by
    intro X hP hw hK hc i pins s σ H E I hf st hg
    subst hP hw hK
    obtain ⟨hi, l1, l2⟩ := hg
    obtain ⟨zz, zi, ⟨a', b', zo⟩, q1, q2⟩ := st
    obtain ⟨f1, P1, R1, D1, d1, e1, g1, m1⟩ := Zs.draws I q1 l1
    obtain ⟨f2, P2, R2, D2, d2, e2, g2, m2⟩ := Zs.draws I q2 l2
    have ap := Z.ap zz zo q1 q2 m1 m2
    have hT : s.TypeIs (.ref z) "zip" := ⟨_, zz, rfl⟩
    unfold pyNext
    refine wpAny_bind (wpAny_attempt (wpAny_callSpecial?_slot (name := Str.ofString "__next__") hT F.slot_zip_next (wpAny_call_entry F.slot_zip_next hT F.entry_zip_next
      (zip_step (D1 _ (I.ok.hd hc)) (D2 _ (I.ok.hd hc)) ap zz zi zo d1 d2 hi fun x y g tk px py zg og s1 s2 pg old => wpAny_pure ?_) (F.args_zip_next_1 _))))
    refine ⟨.ref s.heap.objs.size, rfl, wpAny_letOwnedTupleGo_zip zg fun g' zg' sb => ?_⟩
    replace sb : Heap.SameBut z g g' := sb
    obtain ⟨vx, ax, rx⟩ := g1 hi x px
    obtain ⟨vy, ay, ry⟩ := g2 hi y py
    have lz : z < s.heap.objs.size := Heap.lt_size zz
    have up : ∀ c o, c ≠ z → g.get? c = some o → g'.get? c = some o := fun c o h e => sb.extBut _ _ h e
    have sub : ∀ b ∈ [z, TO, i1, i2], FpOk X pins H b := fun b hb => hf b (by simp only [List.mem_cons, List.not_mem_nil, or_false] at hb ⊢; rcases hb with h | h | h | h <;> simp [h])
    have fr : H s.heap.objs.size = none := I.fresh
    refine ⟨.ref s.heap.objs.size, _, Inv.pairL (s := s) (g := g') (ch := [z, TO, i1, i2]) (tk := tk) I sub (fun b o hb e => ?_) (up _ _ (Nat.ne_of_gt lz) pg) rx ry, rfl, ⟨_, vx, vy, rfl, fr, ax, ay, rfl⟩, ⟨zg', up _ _ Z.a1 (old _ _ Z.a1 Z.a5 Z.a6 Z.a7 zi), ⟨_, _, up _ _ Z.a2 og⟩, Zs.keep (e1 _ _ s1) fun o e => up _ o Z.a3 e, Zs.keep (e2 _ _ s2) fun o e => up _ o Z.a4 e⟩, fun b hb => ?_⟩
    · simp only [List.mem_cons, List.not_mem_nil, or_false, not_or] at hb
      exact up b o hb.1 (old b o hb.1 hb.2.1 hb.2.2.1 hb.2.2.2 e)
    · obtain ⟨o, eo, _⟩ : ∃ o, s.heap.get? b = some o ∧ True := by
        simp only [List.mem_cons, List.not_mem_nil, or_false] at hb
        rcases hb with rfl | rfl | rfl | rfl | rfl
        · exact ⟨_, zz, trivial⟩
        · exact ⟨_, zi, trivial⟩
        · exact ⟨_, zo, trivial⟩
        · obtain ⟨o, e, _⟩ := Zs.ob q1; exact ⟨o, e, trivial⟩
        · obtain ⟨o, e, _⟩ := Zs.ob q2; exact ⟨o, e, trivial⟩
      rw [upd_ne (adr_ne (Heap.lt_size eo) (Nat.le_refl _))]
      exact (hf b hb).1
  done := by
    intro X hP hw hK hc i pins s σ H E I hf st hg
    subst hP hw hK
    obtain ⟨rfl, l1⟩ := hg
    obtain ⟨zz, zi, ⟨a', b', zo⟩, q1, q2⟩ := st
    obtain ⟨f1, P1, R1, D1, d1, e1, g1, m1⟩ := Zs.draws I q1 l1
    have ap : ZAp z TI TO i1 i2 f1 [] := Z.ap zz zo q1 q2 m1 (fun _ h => nomatch h)
    have hT : s.TypeIs (.ref z) "zip" := ⟨_, zz, rfl⟩
    have sub : ∀ b ∈ [z, TO, i1, i2], FpOk X pins H b := fun b hb => hf b (by simp only [List.mem_cons, List.not_mem_nil, or_false] at hb ⊢; rcases hb with h | h | h | h <;> simp [h])
    unfold pyNext
    refine wpAny_bind (wpAny_attempt (wpAny_callSpecial?_slot (name := Str.ofString "__next__") hT F.slot_zip_next (wpAny_call_entry F.slot_zip_next hT F.entry_zip_next
      (zip_over (D1 _ (I.ok.hd hc)) ap zz zi d1 fun g e old he => ?_) (F.args_zip_next_1 _))))
    obtain ⟨o, e1, c1⟩ := he
    refine wpAny_bind (wpAny_isInstance (T := "StopIteration") (b := true) ⟨o, e1, c1⟩ isSubtype_stop (wpAny_pure ⟨rfl, ?_⟩))
    refine Inv.turnL (s := s) (g := g) (ch := [z, TO, i1, i2]) (tk := s.toks) I sub fun b o hb e => ?_
    simp only [List.mem_cons, List.not_mem_nil, or_false, not_or] at hb
    exact old b o hb.1 hb.2.1 hb.2.2.1 hb.2.2.2 e
  self := fun _ _ _ _ _ st h => wpAny_pyIter_zip st.1 h
def Zs.val (H : Hp) (K : PySem.W.Frag) : Zs → V → Prop
  | .lst a, v => v = .ref a ∧ ∃ xs, SqL K H a xs
  | .str z, v => v = .str z
def Zs.new : Zs → Tok → Obj
  | .lst a, _ => { cls := .type "list_iterator", data := .fields #[.ref a, .int 0 0] }
  | .str z, t => { cls := .type (strIterType z), data := .fields #[.str z t, .int 0 0] }
theorem Zs.new_tn {S : Zs} {t : Tok} {it : Addr} {h : Heap} (e : h.get? it = some (S.new t)) : S.tn t it 0 h := by
  cases S with
  | lst a => exact ⟨_, e, rfl, rfl⟩
  | str z => exact ⟨_, e, rfl, rfl⟩
def Zs.is (S : Zs) (t : Tok) (h : Heap) (v : Value) : Prop := match S with
  | .lst a => v = .ref a ∧ ∃ its, h.IsList a its
  | .str z => v = .str z t
theorem Zs.iter {prog : Program} {w : World} {A : Around} {E : Value → Shared → Prop} {s : Shared} {S : Zs} {t : Tok} {v : Value} {Q : Value → Shared → Prop} (h : S.is t s.heap v) (q : Q (.ref s.heap.objs.size) { s with heap := s.heap.push (S.new t) }) : wpAny (model prog w) A (pyIter v) Q E s := by
  cases S with
  | lst a =>
    obtain ⟨rfl, its, hl⟩ := h
    exact wpAny_pyIter_list hl q
  | str z =>
    have h : v = .str z t := h
    subst h
    have q : Q (.ref s.heap.objs.size) { s with heap := s.heap.push { cls := .type (strIterType z), data := .fields #[.str z t, .int 0 0] } } := q
    cases ha : z.cps.all (· < 128)
    · have e : strIterType z = "str_iterator" := by unfold strIterType; rw [ha]; rfl
      rw [e] at q
      exact wpAny_pyIter_wide ha q
    · have e : strIterType z = "str_ascii_iterator" := by unfold strIterType; rw [ha]; rfl
      rw [e] at q
      exact wpAny_pyIter_ascii ha q
theorem Zs.is_push {S : Zs} {t : Tok} {h : Heap} {v : Value} (q : S.is t h v) (o : Obj) : S.is t (h.push o) v := by
  cases S with
  | lst a => exact let ⟨e, its, hl⟩ := q; ⟨e, its, hl.push o⟩
  | str z => exact q
abbrev zp (h : Heap) (o1 o2 : Obj) : Heap := (((((h.push o1).push o2).push { cls := .type "tuple", data := .seq #[.ref h.objs.size, .ref (h.push o1).objs.size] })).push { cls := .type "tuple", data := .seq #[.none, .none] }).push
  { cls := .type "zip", data := .fields #[.none, .bool false, .bool false, .ref ((h.push o1).push o2).objs.size, .ref (((h.push o1).push o2).push { cls := .type "tuple", data := .seq #[.ref h.objs.size, .ref (h.push o1).objs.size] }).objs.size] }
theorem zip_made (S1 S2 : Zs) (t1 t2 : Tok) (v1 v2 : Value) : Meets (Builtin.«zip.__new__» ⟨[.type "zip", v1, v2], []⟩) (fun _ R s => S1.is t1 s.heap v1 ∧ S2.is t2 s.heap v2 ∧
    R (.ok (.ret (.ref ((((s.heap.push (S1.new t1)).push (S2.new t2)).push { cls := .type "tuple", data := .seq #[.ref s.heap.objs.size, .ref (s.heap.push (S1.new t1)).objs.size] }).push { cls := .type "tuple", data := .seq #[.none, .none] }).objs.size))) { s with heap := zp s.heap (S1.new t1) (S2.new t2) }) :=
  .of_wp fun prog w A R s h => by
    obtain ⟨hp, g, d, tk, os⟩ := s
    obtain ⟨w1, w2, h⟩ := h
    have hsub := sub_zip
    have u1 : S1.is t1 (Shared.heap ⟨hp, g, d, tk, os⟩) v1 := w1
    have u2 : S2.is t2 (Shared.heap ⟨hp.push (S1.new t1), g, d, tk, os⟩) v2 := Zs.is_push w2 _
    wp_walk using Zs.iter u1, Zs.iter u2
    exact ⟨_, rfl, h⟩
theorem call_zipS {prog : Program} {w : World} {A : Around} {E : Value → Shared → Prop} {s : Shared} {S1 S2 : Zs} {t1 t2 : Tok} {v1 v2 : Value} {Q : Value → Shared → Prop} (h1 : S1.is t1 s.heap v1) (h2 : S2.is t2 s.heap v2)
    (h : ∀ g z TI TO i1 i2, ZAd z TI TO i1 i2 → IsZip g z TI TO .none → IsPair g TI (.ref i1) (.ref i2) → (∃ a b, IsPair g TO a b) → S1.tn t1 i1 0 g → S2.tn t2 i2 0 g → (∀ b ∈ [z, TI, TO, i1, i2], s.heap.objs.size ≤ b) →
      (∀ c o, s.heap.get? c = some o → g.get? c = some o) → Q (.ref z) { s with heap := g }) : wpAny (model prog w) A (call (.type "zip") [v1, v2]) Q E s := by
  refine callType_new F.called_zip (by decide) (F.typeCall_zip_2 _ _) (F.newCall_zip_2 _ _) (fun obj => F.args_object_init_3 obj _ _) F.entry_zip_new (zip_made S1 S2 t1 t2 v1 v2) ⟨h1, h2, ?_⟩
  have f1 : (S1.new t1).isFreed = false := by cases S1 <;> rfl
  have f2 : (S2.new t2).isFreed = false := by cases S2 <;> rfl
  have z1 : (s.heap.push (S1.new t1)).objs.size = s.heap.objs.size + 1 := Heap.size_push ..
  have z2 : ((s.heap.push (S1.new t1)).push (S2.new t2)).objs.size = s.heap.objs.size + 2 := by rw [Heap.size_push, z1]
  have z3 : (((s.heap.push (S1.new t1)).push (S2.new t2)).push { cls := .type "tuple", data := .seq #[.ref s.heap.objs.size, .ref (s.heap.push (S1.new t1)).objs.size] }).objs.size = s.heap.objs.size + 3 := by rw [Heap.size_push, z2]
  have z4 : ((((s.heap.push (S1.new t1)).push (S2.new t2)).push { cls := .type "tuple", data := .seq #[.ref s.heap.objs.size, .ref (s.heap.push (S1.new t1)).objs.size] }).push { cls := .type "tuple", data := .seq #[.none, .none] }).objs.size = s.heap.objs.size + 4 := by rw [Heap.size_push, z3]
  have g1 : (zp s.heap (S1.new t1) (S2.new t2)).get? s.heap.objs.size = some (S1.new t1) := Heap.get?_push_of_some _ (Heap.get?_push_of_some _ (Heap.get?_push_of_some _ (Heap.get?_push_of_some _ (Heap.get?_push_size _ f1))))
  have g2 : (zp s.heap (S1.new t1) (S2.new t2)).get? (s.heap.push (S1.new t1)).objs.size = some (S2.new t2) := Heap.get?_push_of_some _ (Heap.get?_push_of_some _ (Heap.get?_push_of_some _ (Heap.get?_push_size _ f2)))
  have g3 : (zp s.heap (S1.new t1) (S2.new t2)).get? ((s.heap.push (S1.new t1)).push (S2.new t2)).objs.size = some _ := Heap.get?_push_of_some _ (Heap.get?_push_of_some _ (Heap.get?_push_size _ rfl))
  have g4 : (zp s.heap (S1.new t1) (S2.new t2)).get? (((s.heap.push (S1.new t1)).push (S2.new t2)).push { cls := .type "tuple", data := .seq #[.ref s.heap.objs.size, .ref (s.heap.push (S1.new t1)).objs.size] }).objs.size = some _ := Heap.get?_push_of_some _ (Heap.get?_push_size _ rfl)
  have g5 : (zp s.heap (S1.new t1) (S2.new t2)).get? ((((s.heap.push (S1.new t1)).push (S2.new t2)).push { cls := .type "tuple", data := .seq #[.ref s.heap.objs.size, .ref (s.heap.push (S1.new t1)).objs.size] }).push { cls := .type "tuple", data := .seq #[.none, .none] }).objs.size = some _ := Heap.get?_push_size _ rfl
  have lt : ∀ {a b n : Nat}, a < b → n + a ≠ n + b := fun h e => absurd (Nat.add_left_cancel e) (Nat.ne_of_lt h)
  have l0 : ∀ {b n : Nat}, 0 < b → n ≠ n + b := fun h e => absurd e (Nat.ne_of_lt (Nat.lt_add_of_pos_right h))
  show _ ∧ _
  refine ⟨⟨_, g5, rfl⟩, h _ _ _ _ _ _ ?_ g5 g3 ⟨_, _, g4⟩ (Zs.new_tn g1) (Zs.new_tn g2) (fun b hb => ?_) fun c o x => Heap.get?_push_of_some _ (Heap.get?_push_of_some _ (Heap.get?_push_of_some _ (Heap.get?_push_of_some _ (Heap.get?_push_of_some _ x))))⟩
  · rw [z4, z3, z2, z1]
    exact ⟨lt (by decide), lt (by decide), l0 (by decide), lt (by decide), lt (by decide), (l0 (by decide)).symm, (lt (by decide)).symm, (l0 (by decide)).symm, (lt (by decide)).symm, l0 (by decide)⟩
  · rw [z4, z3, z2, z1] at hb
    simp only [List.mem_cons, List.not_mem_nil, or_false] at hb
    rcases hb with rfl | rfl | rfl | rfl | rfl
    · exact Nat.le_add_right _ _
    · exact Nat.le_add_right _ _
    · exact Nat.le_add_right _ _
    · exact Nat.le_refl _
    · exact Nat.le_add_right _ _
section
variable {X : Cx} {elts : List Expr} {x1 : Nat} {tp : Pos}
theorem Zs.val_is {pins : List (Addr × Obj)} {σ : St} {H : Hp} {s : Shared} {S : Zs} {v : V} {u : Value} (I : Inv X pins σ H s) (h : S.val H X.K v) (r : RelV v u) : ∃ t, S.is t s.heap u := by
  cases S with
  | lst a =>
    obtain ⟨rfl, xs, hq⟩ := h
    cases r
    obtain ⟨its, rv, p, hz⟩ := I.list hq
    exact ⟨default, rfl, _, p.isList⟩
  | str z =>
    have h : v = .str z := h
    subst h
    obtain ⟨t, rfl⟩ := r
    exact ⟨t, rfl⟩
def iZip (K : PySem.W.Frag) (ta : TA) : TI := fun σ H R => ta σ H fun vs H1 => ∃ (S1 S2 : Zs) (n : Nat) (v1 v2 : V), vs = [v1, v2] ∧ S1.val H1 K v1 ∧ S2.val H1 K v2 ∧ R (Itz K S1 S2 n) H1
theorem pi_zip {a b : Expr} {ta : TA} {p pos : Pos} (hg : Gl X "zip") (hm : X.mg "zip" = none) (ha : PA X [a, b] ta) (hs : starEach [a, b] X.env = (false, eval a X.env) :: starEach [b] X.env := by rfl) (hs2 : (backTo pos (starEach [b] X.env)).any (·.1) = false := by rfl) :
    PI X (.Tuple elts x1 tp) (.Call (.Name "zip" p) [a, b] [] pos) (iZip X.K ta) := by
  intro pins s σ H R I h
  refine Call_ (ld_blt I hg hm boot_zip (PyProof.Rows.callWith_type1 (thn (ha pos pins s σ H _ I h) fun us s1 ⟨vs, H1, I1, r1, q1⟩ => ?_) hs hs2))
  obtain ⟨S1, S2, n, v1, v2, e, w1, w2, q⟩ := q1
  subst e
  obtain ⟨u1, u2, rfl, ru1, ru2⟩ := vals2 r1
  obtain ⟨t1, j1⟩ := Zs.val_is I1 w1 ru1
  obtain ⟨t2, j2⟩ := Zs.val_is I1 w2 ru2
  refine call_zipS j1 j2 fun g z TI TO i1 i2 Z zz zi zo q1 q2 big old => wpAny_pyIter_zip zz ?_
  exact ⟨z, [z, TI, TO, i1, i2], _, _, H1, rfl, I1.kept (t' := s1.toks) old, turn_zip S1 S2 t1 t2 z TI TO i1 i2 n Z, ⟨zz, zi, zo, q1, q2⟩, fun b hb => I1.fpOk (big b hb) (I1.hok.fresh (big b hb)), q⟩
end
theorem for_zip {K : PySem.W.Frag} {S1 S2 : Zs} {n : Nat} {g : TG} {tb : TS} {D : Ends} {σ : St} {H : Hp} (Pv : Nat → St → Hp → Prop) (h0 : Pv 0 σ H) (hl : ∀ i σ H, i ≤ n → Pv i σ H → S1.len K H n ∧ S2.len K H n)
    (hs : ∀ i x y σ H p, i < n → S1.at K i H x → S2.at K i H y → Pv i σ H → H p = none → g (.ref p) σ (upd H p (.tup [x, y])) fun σ2 H2 => tb { D with nx := Pv (i + 1), ct := Pv (i + 1), bk := D.nx } σ2 H2) (hd : ∀ σ H, Pv n σ H → D.nx σ H) :
    ∃ W : Nat → Nat → St → Hp → Prop, (∃ m, W 0 m σ H) ∧ ∀ i m σ H, W i m σ H →
      ((Itz K S1 S2 n).stop i H ∧ D.nx σ H) ∨ ((Itz K S1 S2 n).go i H ∧ ∃ N : St → Hp → Prop, (∀ σ' H', N σ' H' → ∃ m', m' < m ∧ W (i + 1) m' σ' H') ∧ ∀ x H', (Itz K S1 S2 n).yld i H x H' → g x σ H' fun σ2 H2 => tb { D with nx := N, ct := N, bk := D.nx } σ2 H2) := by
  refine ⟨fun i m σ H => m = n - i ∧ i ≤ n ∧ Pv i σ H, ⟨n, by simp, Nat.zero_le _, h0⟩, ?_⟩
  rintro i m σ H ⟨rfl, hi, p⟩
  obtain ⟨l1, l2⟩ := hl i σ H hi p
  by_cases hlt : i < n
  · refine .inr ⟨⟨hlt, l1, l2⟩, Pv (i + 1), fun σ' H' p' => ⟨n - (i + 1), by omega, rfl, hlt, p'⟩, fun x H' y => ?_⟩
    obtain ⟨b, x', y', rfl, nb, a1, a2, rfl⟩ := y
    exact hs i x' y' σ H b hlt a1 a2 p nb
  · have e : i = n := by omega
    subst e
    exact .inl ⟨⟨rfl, l1⟩, hd σ H p⟩
theorem comp_zip {K : PySem.W.Frag} {S1 S2 : Zs} {n : Nat} {g : TG} {tc : TT} {te : TE} {σ0 : St} {H0 : Hp} {Q : VK} (G : Nat → List V) (Sg : Nat → St → Hp → Prop) (hz : n ≤ sizeLine) (hG : ∀ i, i ≤ n → (G i).length ≤ i) (g0 : G 0 = []) (s0 : Sg 0 σ0 H0) (hl : ∀ i σ H, Sg i σ H → S1.len K H n ∧ S2.len K H n)
    (hs : ∀ i x y σ H b, i < n → S1.at K i H x → S2.at K i H y → Sg i σ H → H b = none → g (.ref b) σ (upd H b (.tup [x, y])) fun σ2 H2 => tc σ2 H2 fun b H3 => if b = true then te σ2 H3 fun y H4 => CNx n G Sg i (G i ++ [y]) σ2 H4 else CNx n G Sg i (G i) σ2 H3)
    (fin : ∀ σ H p, Sg n σ H → H p = none → Q (.ref p) (upd H p (.lst (G n)))) : tCompW g tc te (Itz K S1 S2 n) σ0 H0 Q := by
  refine ⟨fun i m acc σ H' => m = n - i ∧ i ≤ n ∧ acc = G i ∧ Sg i σ H', ⟨n, by simp, Nat.zero_le _, g0.symm, s0⟩, ?_⟩
  rintro i m acc σ H ⟨rfl, hi, rfl, hS⟩
  obtain ⟨l1, l2⟩ := hl i σ H hS
  by_cases hlt : i < n
  · refine .inr ⟨⟨hlt, l1, l2⟩, by have := hG i hi; omega, fun x H1 y => ?_⟩
    obtain ⟨b, x', y', rfl, nb, a1, a2, rfl⟩ := y
    exact hs i x' y' σ H b hlt a1 a2 hS nb
  · have e : i = n := by omega
    subst e
    exact .inl ⟨⟨rfl, l1⟩, fun p hp => fin σ H p hS hp⟩
theorem get_list {X : Cx} : PGet X (fun o i H Q => ∃ p xs k v, o = .ref p ∧ i = .int ((k : Nat) : Int) ∧ SqL X.K H p xs ∧ xs[k]? = some v ∧ Q v H) := by
  intro pins s σ H o i ov iv Q I ro ri h
  obtain ⟨p, xs, k, v, rfl, rfl, hq, hv, q⟩ := h
  cases ro
  obtain ⟨t, rfl⟩ := ri
  obtain ⟨its, r, pl, hz⟩ := I.list hq
  obtain ⟨u, hu, ru⟩ := r.get hv
  have hl := r.length
  have hlt := (List.getElem?_eq_some_iff.mp hu).1
  have h63 := line63
  exact wpAny_getItem_list pl.isList (by omega) (by omega) (by rw [Int.toNat_natCast]; simpa using hu) ⟨v, H, I, ru, q⟩
theorem op_mulB {X : Cx} : OpR X (binaryOp .Mult) (rI (fun i j => Builtin.Int.intBits i ≤ 2 ^ 20 ∧ Builtin.Int.intBits j ≤ 2 ^ 20) fun i j => .int (i * j)) := opI fun _ _ _ _ _ _ _ hc q => mul_int q (IntMulOk.of_bits hc.1 hc.2)
end L2
namespace L2
open PySem PySem.Spec PyProof.Rows
def SmV (K : PySem.W.Frag) (H : Hp) (u v : V) (e : Bool) : Prop := (flatV u = true ∧ flatV v = true ∧ e = eqV u v) ∨ ∃ (a b : Addr) (ns ms : List Int), u = .ref a ∧ v = .ref b ∧ SqL K H a (ns.map V.int) ∧ SqL K H b (ms.map V.int) ∧ e = decide (ns = ms)
theorem SmV.at {X : Cx} {pins : List (Addr × Obj)} {σ : St} {H : Hp} {s : Shared} {A : Around} {u v : V} {x y : Value} {e : Bool} (I : Inv X pins σ H s) (h : SmV X.K H u v e) (ru : RelV u x) (rv : RelV v y) (hu : A.units < cLine) : SeqAt.EqAt A s x y e := by
  rcases h with ⟨f1, f2, rfl⟩ | ⟨a, b, ns, ms, rfl, rfl, h1, h2, rfl⟩
  · exact eqAt_V ru rv f1 f2
  · cases ru
    cases rv
    obtain ⟨its, r1, p1, _⟩ := I.list h1
    obtain ⟨its2, r2, p2, _⟩ := I.list h2
    by_cases c : a = b
    · subst c
      have := I.list_inj h1 h2
      have : ns = ms := (List.map_inj_right fun x y e => V.int.inj e).mp this
      rw [decide_eq_true this]
      exact SeqAt.EqAt.same _
    · refine SeqAt.EqAt.of_refs c ?_
      by_cases hl : ns.length = ms.length
      · have l1 := r1.length
        have l2 := r2.length
        rw [List.length_map] at l1 l2
        have := SeqAt.RcAt.lists p1.isList p2.isList (by simp only [List.size_toArray]; omega) hu (eqAt_ints r1 r2)
        rw [List.size_toArray, ← l1, all_same hl] at this
        exact this
      · obtain ⟨c1, c2⟩ := len_ne r1 r2 hl
        rw [c2]
        exact SeqAt.RcAt.lists_lengths p1.isList p2.isList c1 hu
end L2
namespace L2
open PySem PySem.Spec PyProof.Rows
def dst (ns : List Int) : Nat := (firstMet (fun i => ns.getD i 0) ns.length).length
theorem dst_nodup {ns : List Int} (h : ns.Nodup) : dst ns = ns.length := by
  have key : ∀ i, i ≤ ns.length → (firstMet (fun i => ns.getD i 0) i).length = i := by
    intro i
    induction i with
    | zero => intro _; rfl
    | succ i ih =>
      intro hi
      rw [firstMet_succ, step_length, firstMet_any, ih (by omega)]
      have no : (((List.range i).map fun i => ns.getD i 0).any (· == ns.getD i 0)) = false := by
        refine List.any_eq_false.mpr fun x hx e => ?_
        obtain ⟨j, hj, rfl⟩ := List.mem_map.mp hx
        have hj := List.mem_range.mp hj
        have e : ns.getD j 0 = ns.getD i 0 := by simpa using e
        rw [List.getD_eq_getElem?_getD, List.getD_eq_getElem?_getD, List.getElem?_eq_getElem (show j < ns.length by omega), List.getElem?_eq_getElem (show i < ns.length by omega)] at e
        have e : ns[j] = ns[i] := e
        have := (List.getElem_inj h).mp e
        omega
      rw [no]
      rfl
  exact key _ (Nat.le_refl _)
def rSetOf (K : PySem.W.Frag) : List V → Hp → VK → Prop := fun xs H Q => ∃ (a : Addr) (ns : List Int), xs = [.ref a] ∧ SqL K H a (ns.map V.int) ∧ ns.length < 1000 ∧ ∀ (S : Int → Bool) (p : Addr), H p = none → Q (.ref p) (upd H p (.set S (dst ns)))
theorem call_setL {X : Cx} (hcm : X.calm = true) : CallR X (.type "set") (rSetOf X.K) := by
  intro pins s σ H xs us Q I r h
  obtain ⟨a, ns, rfl, h1, hz, q⟩ := h
  obtain ⟨u, rfl, ru⟩ := vals1 r
  cases ru
  obtain ⟨its, r1, p1, _⟩ := I.list h1
  have hl := r1.length
  rw [List.length_map] at hl
  refine call_set_list (I.ok.hd hcm) p1.isList (ns := ns) (by simpa using intsAre_of r1) (by rw [List.size_toArray]; exact Nat.lt_of_lt_of_le (show its.length + 1 < 2000 by omega) (by decide)) fun h' tk hs hk => ?_
  have ez : its.toArray.size = ns.length := by rw [List.size_toArray]; exact hl.symm
  rw [ez] at hs
  exact ⟨.ref _, _, I.laid (t' := tk) (a := s.heap.objs.size) (o := .set _ (dst ns)) (fun b o e => hk b o (Heap.lt_size e) e) (Nat.le_refl _) hs, rfl, q _ _ (I.hok.fresh (Nat.le_refl _))⟩
theorem call_len_setI {X : Cx} : CallR X (.builtin "len") (fun xs H Q => ∃ (a : Addr) (S : Int → Bool) (n : Nat), xs = [.ref a] ∧ H a = some (.set S n) ∧ Q (.int (n : Int)) H) := by
  intro pins s σ H xs us Q I r h
  obtain ⟨a, S, n, rfl, ha, q⟩ := h
  obtain ⟨u, rfl, ru⟩ := vals1 r
  cases ru
  obtain ⟨o, es, ep, t, e1, e2, e3, e4, e5, e6, e7, e8⟩ := I.hok a _ ha
  have hs := fits_of_scanBound e6
  have h63 := line63
  subst e8
  exact call_len_set e1 e2 e3 e7 (by omega) ⟨.int _, H, I.tok _, ⟨_, rfl⟩, q⟩
def Itk (n : Nat) : It := ⟨fun i _ => i < n, fun i H x H' => H' = H ∧ x = .int ((2 * i : Nat) : Int), fun i _ => n ≤ i⟩
theorem turn_range2 {P : Program} {w : World} {K : PySem.W.Frag} {tg : Expr} (it : Addr) (n : Nat) : Turn P w K tg (Itk n) [it] it (fun i h => IsRangeIter h it ((0 : Int) + (i : Nat) * 2) ((n : Int) - (i : Nat)) 2) where
  mem := by simp
  obj := fun i h st b hb => by
    have e : b = it := by simpa using hb
    subst e
    exact ⟨_, st, fun v z => by
      have z' : Data.fields _ = Data.cell v := z
      cases z'⟩
  keep := fun i h h' st k => k it (by simp) _ st
  item := by
    intro X hP hw hK hc i pins s σ H E I hf st hg
    subst hP hw hK
    obtain ⟨f0, f1, f2, f3, f4, f5⟩ := hf it (by simp)
    have W := Walks.range (prog := X.prog) (w := X.w) (I.ok.hd hc) it 0 2 n
    refine W.item i s _ _ hg st fun v h' tk hv st' kk => ?_
    obtain ⟨t, rfl⟩ := hv
    have I1 : Inv X pins σ H { s with heap := h', toks := tk } := I.turned (fun b o hb e => kk b o (by simpa using hb) e) f0 f1 f3 f4 f5
    refine ⟨_, rfl, go_of (s := { s with heap := h', toks := tk }) (n := "range_iterator") st' rfl rfl (by decide) ⟨.int ((2 * i : Nat) : Int), H, I1, ⟨t, ?_⟩, ⟨rfl, rfl⟩, st', fun b hb => (hf b hb).1⟩⟩
    have e : (0 : Int) + (i : Int) * 2 = ((2 * i : Nat) : Int) := by omega
    rw [e]
  done := by
    intro X hP hw hK hc i pins s σ H E I hf st hg
    subst hP hw hK
    obtain ⟨f0, f1, f2, f3, f4, f5⟩ := hf it (by simp)
    exact wpAny_pyNext_range_end (I.ok.hd hc) st (by have : n ≤ i := hg; omega) fun h' eb => ⟨rfl, I.turned (t' := s.toks) (fun b o hb e => eb b o hb e) f0 f1 f3 f4 f5⟩
  self := fun _ _ _ _ _ st h => wpAny_pyIter_rangeiter st h
theorem size_two (n : Nat) : Builtin.Range.rangeSize 0 ((2 * n : Nat) : Int) 2 = (n : Int) := by
  unfold Builtin.Range.rangeSize
  rw [if_pos (by decide)]
  split <;> omega
theorem small_two (n : Nat) (h : n ≤ 1000) : Builtin.Range.small 0 ((2 * n : Nat) : Int) 2 = true := by
  have f : ∀ i : Int, 0 ≤ i → i ≤ 5000 → Builtin.Range.rangeFitsLong i = true := fun i h1 h2 => by
    unfold Builtin.Range.rangeFitsLong
    rw [decide_eq_true (by omega), decide_eq_true (by omega)]
    rfl
  unfold Builtin.Range.small
  rw [size_two, f 0 (by decide) (by decide), f ((2 * n : Nat) : Int) (by omega) (by omega), f 2 (by decide) (by decide), f (n : Int) (by omega) (by omega)]
  rw [if_pos (by decide), f (((2 * n : Nat) : Int) + (2 - 1)) (by omega) (by omega), Bool.or_true]
  rfl
section
variable {X : Cx} {tg : Expr}
def iRngE (ta : TA) : TI := fun σ H R => ta σ H fun vs H1 => ∃ n : Nat, vs = [.int 0, .int ((2 * n : Nat) : Int), .int 2] ∧ n ≤ 1000 ∧ R (Itk n) H1
theorem pi_rangeE {a b c : Expr} {ta : TA} {p pos : Pos} (hg : Gl X "range") (hm : X.mg "range" = none) (ha : PA X [a, b, c] ta) (hs : starEach [a, b, c] X.env = (false, eval a X.env) :: starEach [b, c] X.env := by rfl) (hs2 : (backTo pos (starEach [b, c] X.env)).any (·.1) = false := by rfl) :
    PI X tg (.Call (.Name "range" p) [a, b, c] [] pos) (iRngE ta) := by
  intro pins s σ H R I h
  refine Call_ (ld_blt I hg hm boot_range (PyProof.Rows.callWith_type1 (thn (ha pos pins s σ H _ I h) fun us s1 ⟨vs, H1, I1, r1, q1⟩ => ?_) hs hs2))
  obtain ⟨n, e, hn, q⟩ := q1
  subst e
  cases r1 with
  | cons r rr =>
    cases rr with
    | cons r' rr =>
      cases rr with
      | cons r'' rr =>
        cases rr
        obtain ⟨t, rfl⟩ := r
        obtain ⟨u, rfl⟩ := r'
        obtain ⟨v, rfl⟩ := r''
        refine call_range_3 (by decide) ?_ (.inl (PyProof.noPylong_small (by decide)))
        refine wpAny_pyIter_range (IsRange.new ..) (small_two n hn) ?_
        have I2 : Inv X pins σ H1 { s1 with heap := s1.heap.push { cls := .type "range", data := .fields #[.int 0 t, .int ((2 * n : Nat) : Int) u, .int 2 v] }, toks := s1.toks } := I1.kept fun b o e => Heap.get?_push_of_some _ e
        refine ⟨(s1.heap.push { cls := .type "range", data := .fields #[.int 0 t, .int ((2 * n : Nat) : Int) u, .int 2 v] }).objs.size, [(s1.heap.push { cls := .type "range", data := .fields #[.int 0 t, .int ((2 * n : Nat) : Int) u, .int 2 v] }).objs.size], _, _, H1, rfl,
          I2.kept (t' := s1.toks) fun b o e => Heap.get?_push_of_some _ e, turn_range2 _ n, ?_, fun b hb => ?_, q⟩
        · show IsRangeIter _ _ ((0 : Int) + ((0 : Nat) : Int) * 2) ((n : Int) - ((0 : Nat) : Int)) 2
          have e2 : (n : Int) - ((0 : Nat) : Int) = Builtin.Range.rangeSize 0 ((2 * n : Nat) : Int) 2 := by rw [size_two]; omega
          rw [e2]
          exact Heap.get?_push_size _ rfl
        · have e : b = (s1.heap.push { cls := .type "range", data := .fields #[.int 0 t, .int ((2 * n : Nat) : Int) u, .int 2 v] }).objs.size := by simpa using hb
          subst e
          exact I2.fpOk (Nat.le_refl _) (I2.hok.fresh (Nat.le_refl _))
end
theorem comp_rangeE {g : TG} {tc : TT} {te : TE} {σ0 : St} {H0 : Hp} {Q : VK} {n : Nat} (G : Nat → List V) (Sg : Nat → St → Hp → Prop) (hz : n ≤ sizeLine) (hG : ∀ i, i ≤ n → (G i).length ≤ i) (g0 : G 0 = []) (s0 : Sg 0 σ0 H0)
    (hs : ∀ i σ H, i < n → Sg i σ H → g (.int ((2 * i : Nat) : Int)) σ H fun σ2 H2 => tc σ2 H2 fun b H3 => if b = true then te σ2 H3 fun y H4 => CNx n G Sg i (G i ++ [y]) σ2 H4 else CNx n G Sg i (G i) σ2 H3)
    (fin : ∀ σ H p, Sg n σ H → H p = none → Q (.ref p) (upd H p (.lst (G n)))) : tCompW g tc te (Itk n) σ0 H0 Q := by
  refine ⟨fun i m acc σ H' => m = n - i ∧ i ≤ n ∧ acc = G i ∧ Sg i σ H', ⟨n, by simp, Nat.zero_le _, g0.symm, s0⟩, ?_⟩
  rintro i m acc σ H ⟨rfl, hi, rfl, hS⟩
  by_cases hlt : i < n
  · refine .inr ⟨hlt, by have := hG i hi; omega, fun x H1 y => ?_⟩
    obtain ⟨e, y⟩ := y
    subst e y
    exact hs i σ _ hlt hS
  · have e : i = n := by omega
    subst e
    exact .inl ⟨Nat.le_refl _, fun p hp => fin σ H p hS hp⟩
end L2
namespace Ks
open PySem PySem.W PyProof.Rows
section
variable {n : Nat} {k : Nat → Int} {cmp : Nat → Nat → (Bool → Shared → Prop) → Shared → Prop} {s : Shared}
def lx (k : Nat → Int) (a b : Nat) : Prop := k a < k b ∨ (k a = k b ∧ a < b)
theorem lx_trans {a b c : Nat} (h : lx k a b) (g : lx k b c) : lx k a c := by
  unfold lx at *
  omega
def at' (p : Array Nat) (i : Nat) : Nat := p.getD i 0
theorem at_of {p : Array Nat} {i x : Nat} (h : p[i]? = some x) : at' p i = x := by
  have hi := (Array.getElem?_eq_some_iff.mp h)
  obtain ⟨lt, e⟩ := hi
  unfold at'
  rw [Array.getD_eq_getD_getElem?, h]
  rfl
theorem at_some {p : Array Nat} {i : Nat} (h : i < p.size) : p[i]? = some (at' p i) := by
  have e : p[i]? = some p[i] := Array.getElem?_eq_getElem h
  rw [e, at_of e]
theorem at_rev {p : Array Nat} {i j m : Nat} (hj : j ≤ p.size) (hm : m < p.size) : at' (kas_rev p i j) m = if i ≤ m ∧ m < j then at' p (i + j - 1 - m) else at' p m := by
  refine at_of ?_
  unfold kas_rev
  rw [getElem?_mirror_all hj]
  by_cases c : i ≤ m ∧ m < j
  · rw [if_pos c, if_pos c, at_some (by omega)]
  · rw [if_neg c, if_neg c, at_some hm]
theorem rev_size (p : Array Nat) (i j : Nat) : (kas_rev p i j).size = p.size := by
  unfold kas_rev
  exact mirror_size _ _ _ _
theorem at_bub {p : Array Nat} {src d m : Nat} (hs : src < p.size) (hd : d ≤ src) (hm : m < p.size) : at' (bubble p src d) m = if m = src - d then at' p src else if src - d < m ∧ m ≤ src then at' p (m - 1) else at' p m := by
  refine at_of ?_
  rw [getElem?_bubble hs d hd]
  split
  · exact at_some hs
  · split
    · exact at_some (by omega)
    · exact at_some hm
structure Pre (n : Nat) (p : Array Nat) (x : Nat) : Prop where
  sz : p.size = n
  le : x ≤ n
  lo : ∀ i, i < x → at' p i < x
  hi : ∀ i, x ≤ i → i < n → at' p i = i
theorem Pre.lt {p : Array Nat} {x i : Nat} (h : Pre n p x) (hi : i < n) : at' p i < n := by
  by_cases c : i < x
  · have := h.lo i c
    have := h.le
    omega
  · rw [h.hi i (by omega) hi]; exact hi
theorem Pre.more {p : Array Nat} {x : Nat} (h : Pre n p x) (hx : x < n) : Pre n p (x + 1) := ⟨h.sz, hx, fun i hi => by
  by_cases c : i < x
  · have := h.lo i c; omega
  · rw [h.hi i (by omega) (by omega)]; exact hi, fun i h1 h2 => h.hi i (by omega) h2⟩
theorem Pre.rev {p : Array Nat} {x a b : Nat} (h : Pre n p x) (hb : b ≤ x) : Pre n (kas_rev p a b) x := by
  have sz := h.sz
  have le := h.le
  refine ⟨by rw [rev_size]; exact sz, le, fun i hi => ?_, fun i h1 h2 => ?_⟩
  · rw [at_rev (by omega) (by omega)]
    split
    · exact h.lo _ (by omega)
    · exact h.lo i hi
  · rw [at_rev (by omega) (by omega), if_neg (by omega)]
    exact h.hi i h1 h2
def Up (k : Nat → Int) (p : Array Nat) (x : Nat) : Prop := ∀ i j, i < j → j < x → lx k (at' p i) (at' p j)
def Dn (k : Nat → Int) (p : Array Nat) (x : Nat) : Prop := ∀ i j, i < j → j < x → lx k (at' p j) (at' p i)
theorem Up.more {p : Array Nat} {x : Nat} (h : Up k p x) (hP : Pre n p x) (hx : x < n) (hx0 : 0 < x) (hk : k (at' p (x - 1)) ≤ k (at' p x)) : Up k p (x + 1) := fun i j hij hj => by
  by_cases c : j < x
  · exact h i j hij c
  · have e : j = x := by omega
    subst e
    have l1 : lx k (at' p (j - 1)) (at' p j) := by
      have a := hP.lo (j - 1) (by omega)
      have b := hP.hi j (Nat.le_refl _) hx
      unfold lx
      omega
    by_cases d : i = j - 1
    · rw [d]; exact l1
    · exact lx_trans (h i (j - 1) (by omega) (by omega)) l1
theorem asc_wp (hc : ∀ (i j : Nat) (C : Bool → Shared → Prop), i < n → j < n → C (decide (k i < k j)) s → cmp i j C s) {p : Array Nat} {G : Nat → Shared → Prop} : ∀ (f x : Nat), x + f = n → 0 < x → Pre n p x → Up k p x →
    (∀ m, x ≤ m → m ≤ n → Pre n p m → Up k p m → (m = n ∨ k (at' p m) < k (at' p (m - 1))) → G m s) → (kas_asc p f x).kasWp cmp G s
  | 0, x, e, h0, hP, hU, h => h x (Nat.le_refl _) (by omega) hP hU (.inl (by omega))
  | f + 1, x, e, h0, hP, hU, h => by
    have l1 := hP.lt (i := x) (by omega)
    have l2 := hP.lt (i := x - 1) (by omega)
    show cmp (at' p x) (at' p (x - 1)) _ s
    refine hc _ _ _ l1 l2 ?_
    by_cases c : k (at' p x) < k (at' p (x - 1))
    · rw [decide_eq_true c]
      exact h x (Nat.le_refl _) (by omega) hP hU (.inr c)
    · rw [decide_eq_false c]
      exact asc_wp hc f (x + 1) (by omega) (by omega) (hP.more (by omega)) (hU.more hP (by omega) h0 (by omega)) fun m h1 h2 a b d => h m (by omega) h2 a b d
structure Fall (k : Nat → Int) (p : Array Nat) (x q : Nat) : Prop where
  hq : q + 1 ≤ x
  st : ∀ i, i < x - (q + 1) → k (at' p (x - 1)) < k (at' p i)
  out : ∀ i j, i < j → j < x → i < x - (q + 1) → lx k (at' p j) (at' p i)
  eq : ∀ i, x - (q + 1) ≤ i → i < x → k (at' p i) = k (at' p (x - 1))
  up : ∀ i j, x - (q + 1) ≤ i → i < j → j < x → at' p i < at' p j
theorem Fall.rev {p : Array Nat} {x q : Nat} (h : Fall k p x q) (hx : x ≤ p.size) : Dn k (kas_rev p (x - (q + 1)) x) x := fun i j hij hj => by
  have hq := h.hq
  rw [at_rev hx (by omega), at_rev hx (by omega)]
  by_cases c1 : x - (q + 1) ≤ i
  · rw [if_pos ⟨by omega, hj⟩, if_pos ⟨c1, by omega⟩]
    have e1 := h.eq (x - (q + 1) + x - 1 - j) (by omega) (by omega)
    have e2 := h.eq (x - (q + 1) + x - 1 - i) (by omega) (by omega)
    have e3 := h.up (x - (q + 1) + x - 1 - j) (x - (q + 1) + x - 1 - i) (by omega) (by omega) (by omega)
    exact .inr ⟨by rw [e1, e2], e3⟩
  · rw [if_neg (show ¬ (x - (q + 1) ≤ i ∧ i < x) by omega)]
    by_cases c2 : x - (q + 1) ≤ j
    · rw [if_pos ⟨c2, hj⟩]
      exact h.out i _ (by omega) (by omega) (by omega)
    · rw [if_neg (by omega)]
      exact h.out i j hij hj (by omega)
theorem Fall.dn {p : Array Nat} {x : Nat} (h : Fall k p x 0) : Dn k p x := fun i j a b => h.out i j a b (by omega)
theorem Dn.more {p : Array Nat} {x : Nat} (h : Dn k p x) (hx0 : 0 < x) (hk : k (at' p x) < k (at' p (x - 1))) : Dn k p (x + 1) := fun i j hij hj => by
  by_cases c : j < x
  · exact h i j hij c
  · have e : j = x := by omega
    subst e
    have l1 : lx k (at' p j) (at' p (j - 1)) := .inl hk
    by_cases d : i = j - 1
    · rw [d]; exact l1
    · exact lx_trans l1 (h i (j - 1) (by omega) (by omega))
theorem Dn.fall {p : Array Nat} {x : Nat} (h : Dn k p x) (hx : 0 < x) (hk : k (at' p x) < k (at' p (x - 1))) : Fall k p (x + 1) 0 := by
  have h' := h.more hx hk
  refine ⟨by omega, fun i hi => ?_, fun i j a b _ => h' i j a b, (fun i a b => by rw [show i = x + 1 - 1 by omega]), (fun i j a b c => by omega)⟩
  rw [show x + 1 - 1 = x by omega]
  by_cases c : i = x - 1
  · rw [c]; exact hk
  · have := h i (x - 1) (by omega) (by omega)
    unfold lx at this
    omega
theorem desc_wp (hc : ∀ (i j : Nat) (C : Bool → Shared → Prop), i < n → j < n → C (decide (k i < k j)) s → cmp i j C s) {G : Array Nat × Nat × Nat → Shared → Prop} : ∀ (f : Nat) (p : Array Nat) (x q : Nat), x + f = n → Pre n p x → Fall k p x q →
    (∀ p' m q', Pre n p' m → Fall k p' m q' → G (p', m, q') s) → (kas_desc f p x q).kasWp cmp G s
  | 0, p, x, q, e, hP, hF, h => h p x q hP hF
  | f + 1, p, x, q, e, hP, hF, h => by
    have hq := hF.hq
    have sz := hP.sz
    have l1 := hP.lt (i := x) (by omega)
    have l2 := hP.lt (i := x - 1) (by omega)
    show cmp (at' p x) (at' p (x - 1)) _ s
    refine hc _ _ _ l1 l2 ?_
    by_cases c : k (at' p x) < k (at' p (x - 1))
    · rw [decide_eq_true c]
      show KasT.kasWp cmp (if q > 0 then _ else _) G s
      by_cases q0 : q > 0
      · rw [if_pos q0]
        have D := hF.rev (by omega)
        have ex : at' (kas_rev p (x - (q + 1)) x) x = at' p x := by rw [at_rev (by omega) (by omega), if_neg (by omega)]
        have ex1 : k (at' (kas_rev p (x - (q + 1)) x) (x - 1)) = k (at' p (x - 1)) := by
          rw [at_rev (by omega) (by omega), if_pos ⟨by omega, by omega⟩]
          exact hF.eq _ (by omega) (by omega)
        exact desc_wp hc f _ (x + 1) 0 (by omega) ((hP.rev (Nat.le_refl _)).more (by omega)) (D.fall (by omega) (by rw [ex, ex1]; exact c)) h
      · rw [if_neg q0]
        have e0 : q = 0 := by omega
        subst e0
        exact desc_wp hc f _ (x + 1) 0 (by omega) (hP.more (by omega)) (hF.dn.fall (by omega) c) h
    · rw [decide_eq_false c]
      show cmp (at' p (x - 1)) (at' p x) _ s
      refine hc _ _ _ l2 l1 ?_
      by_cases d : k (at' p (x - 1)) < k (at' p x)
      · rw [decide_eq_true d]
        exact h p x q hP hF
      · rw [decide_eq_false d]
        have ek : k (at' p x) = k (at' p (x - 1)) := by omega
        have px := hP.hi x (Nat.le_refl _) (by omega)
        refine desc_wp hc f p (x + 1) (q + 1) (by omega) (hP.more (by omega)) ⟨by omega, fun i hi => ?_, fun i j hij hj hi => ?_, fun i h1 h2 => ?_, fun i j h1 h2 h3 => ?_⟩ h
        · rw [show x + 1 - 1 = x by omega, ek]
          exact hF.st i (by omega)
        · by_cases z : j < x
          · exact hF.out i j hij z (by omega)
          · have e1 : j = x := by omega
            subst e1
            have o := hF.st i (by omega)
            left
            omega
        · by_cases z : i < x
          · rw [show x + 1 - 1 = x by omega, ek]
            exact hF.eq i (by omega) z
          · rw [show i = x by omega, show x + 1 - 1 = x by omega]
        · by_cases z : j < x
          · exact hF.up i j (by omega) h2 z
          · have e1 : j = x := by omega
            subst e1
            have := hP.lo i (by omega)
            omega
theorem tail3_wp (hc : ∀ (i j : Nat) (C : Bool → Shared → Prop), i < n → j < n → C (decide (k i < k j)) s → cmp i j C s) {p : Array Nat} {x : Nat} {G : Nat × Array Nat → Shared → Prop} (h0 : 0 < x) (hP : Pre n p x) (hD : Dn k p x)
    (h : ∀ p' m, 0 < m → Pre n p' m → Up k p' m → G (m, p') s) : (kas_tail3 x n p).kasWp cmp G s := by
  unfold kas_tail3
  rw [KasT.kasWp_bind]
  have sz := hP.sz
  have le := hP.le
  refine asc_wp hc (n - x) x (by omega) h0 (hP.rev (Nat.le_refl _)) (fun i j hij hj => ?_) fun m h1 h2 a b _ => h _ m (by omega) a b
  rw [at_rev (by omega) (by omega), at_rev (by omega) (by omega), if_pos ⟨by omega, by omega⟩, if_pos ⟨by omega, by omega⟩]
  exact hD _ _ (by omega) (by omega)
theorem descPart_wp (hc : ∀ (i j : Nat) (C : Bool → Shared → Prop), i < n → j < n → C (decide (k i < k j)) s → cmp i j C s) {p : Array Nat} {x : Nat} {G : Nat × Array Nat → Shared → Prop} (h0 : 0 < x) (hx : x < n) (hP : Pre n p x) (hD : Dn k p x) (hk : k (at' p x) < k (at' p (x - 1)))
    (h : ∀ p' m, 0 < m → Pre n p' m → Up k p' m → G (m, p') s) : (kas_descPart x n p).kasWp cmp G s := by
  unfold kas_descPart
  rw [KasT.kasWp_bind]
  refine desc_wp hc (n - (x + 1)) p (x + 1) 0 (by omega) (hP.more hx) (hD.fall h0 hk) fun p' m q' P' F' => ?_
  have hq := F'.hq
  have sz := P'.sz
  have le := P'.le
  show KasT.kasWp cmp (if q' > 0 then _ else _) G s
  by_cases c : q' > 0
  · rw [if_pos c]
    exact tail3_wp hc (show 0 < m by omega) (P'.rev (Nat.le_refl _)) (F'.rev (by omega)) h
  · rw [if_neg c]
    have e : q' = 0 := by omega
    subst e
    exact tail3_wp hc (show 0 < m by omega) P' F'.dn h
theorem id_at {i : Nat} (h : i < n) : at' (List.toArray (List.range n)) i = i := at_of (by rw [List.getElem?_toArray, List.getElem?_range h])
theorem id_pre {x : Nat} (h : x ≤ n) : Pre n (List.toArray (List.range n)) x := ⟨by simp, h, fun i hi => by rw [id_at (by omega)]; exact hi, fun i _ hi => id_at hi⟩
theorem count_wp (hc : ∀ (i j : Nat) (C : Bool → Shared → Prop), i < n → j < n → C (decide (k i < k j)) s → cmp i j C s) {G : Nat × Array Nat → Shared → Prop} (h1 : 1 ≤ n) (h : ∀ p' m, 0 < m → Pre n p' m → Up k p' m → G (m, p') s) : (kas_count n (List.toArray (List.range n))).kasWp cmp G s := by
  unfold kas_count
  rw [KasT.kasWp_bind]
  refine asc_wp hc (n - 1) 1 (by omega) (by omega) (id_pre h1) (fun i j hij hj => by omega) fun m m1 m2 P U e => ?_
  by_cases c : m = n
  · rw [if_pos (by simpa using c)]
    exact h _ m (by omega) P U
  · have hk := e.resolve_left c
    rw [if_neg (by simpa using c)]
    by_cases d : m > 1
    · rw [if_pos d]
      show cmp (at' _ 0) (at' _ (m - 1)) _ s
      refine hc _ _ _ (P.lt (by omega)) (P.lt (by omega)) ?_
      by_cases b : k (at' (List.toArray (List.range n)) 0) < k (at' (List.toArray (List.range n)) (m - 1))
      · rw [decide_eq_true b]
        exact h _ m (by omega) P U
      · rw [decide_eq_false b]
        have sz := P.sz
        have same : ∀ i, i < m → k (at' (List.toArray (List.range n)) i) = k (at' (List.toArray (List.range n)) 0) := fun i hi => by
          have a1 : i = 0 ∨ lx k (at' (List.toArray (List.range n)) 0) (at' (List.toArray (List.range n)) i) := by
            by_cases z : i = 0
            · exact .inl z
            · exact .inr (U 0 i (by omega) hi)
          have a2 : i = m - 1 ∨ lx k (at' (List.toArray (List.range n)) i) (at' (List.toArray (List.range n)) (m - 1)) := by
            by_cases z : i = m - 1
            · exact .inl z
            · exact .inr (U i (m - 1) (by omega) (by omega))
          unfold lx at a1 a2
          rcases a1 with a1 | a1
          · rw [a1]
          · rcases a2 with a2 | a2
            · rw [a2] at a1 ⊢; omega
            · omega
        refine descPart_wp hc (by omega) (by omega) (P.rev (Nat.le_refl _)) (fun i j hij hj => ?_) ?_ h
        · rw [at_rev (by omega) (by omega), at_rev (by omega) (by omega), if_pos ⟨by omega, by omega⟩, if_pos ⟨by omega, by omega⟩]
          exact U _ _ (by omega) (by omega)
        · rw [at_rev (by omega) (by omega), at_rev (by omega) (by omega), if_neg (by omega), if_pos ⟨by omega, by omega⟩, show 0 + m - 1 - (m - 1) = 0 by omega, ← same (m - 1) (by omega)]
          exact hk
    · rw [if_neg d]
      have e1 : m = 1 := by omega
      subst e1
      exact descPart_wp hc (by omega) (by omega) P (fun i j hij hj => by omega) hk h
theorem place_wp (hc : ∀ (i j : Nat) (C : Bool → Shared → Prop), i < n → j < n → C (decide (k i < k j)) s → cmp i j C s) {p : Array Nat} {x : Nat} {G : Nat → Shared → Prop} (hx : x < n) (hP : Pre n p x) (hU : Up k p x) : ∀ (f l r : Nat), l ≤ r → r ≤ x → r - l ≤ f →
    (∀ i, i < l → k (at' p i) ≤ k (at' p x)) → (∀ i, r ≤ i → i < x → k (at' p x) < k (at' p i)) → (∀ l, l ≤ x → (∀ i, i < l → k (at' p i) ≤ k (at' p x)) → (∀ i, l ≤ i → i < x → k (at' p x) < k (at' p i)) → G l s) → (kas_place p x f l r).kasWp cmp G s
  | 0, l, r, h1, h2, h3, a, b, h => h l (by omega) a fun i z => b i (by omega)
  | f + 1, l, r, h1, h2, h3, a, b, h => by
    show KasT.kasWp cmp (if l ≥ r then _ else _) G s
    by_cases c : l ≥ r
    · rw [if_pos c]
      exact h l (by omega) a fun i z => b i (by omega)
    · rw [if_neg c]
      show cmp (at' p x) (at' p ((l + r) / 2)) _ s
      refine hc _ _ _ (hP.lt hx) (hP.lt (by omega)) ?_
      have mono : ∀ i j, i ≤ j → j < x → k (at' p i) ≤ k (at' p j) := fun i j hij hj => by
        by_cases z : i = j
        · rw [z]; exact Int.le_refl _
        · have := hU i j (by omega) hj
          unfold lx at this
          omega
      by_cases d : k (at' p x) < k (at' p ((l + r) / 2))
      · rw [decide_eq_true d]
        refine place_wp hc hx hP hU f l ((l + r) / 2) (by omega) (by omega) (by omega) a (fun i z1 z2 => ?_) h
        have := mono ((l + r) / 2) i z1 z2
        omega
      · rw [decide_eq_false d]
        refine place_wp hc hx hP hU f ((l + r) / 2 + 1) r (by omega) h2 (by omega) (fun i z => ?_) b h
        have := mono i ((l + r) / 2) (by omega) (by omega)
        omega
theorem bin_wp (hc : ∀ (i j : Nat) (C : Bool → Shared → Prop), i < n → j < n → C (decide (k i < k j)) s → cmp i j C s) {G : Array Nat → Shared → Prop} : ∀ (f : Nat) (p : Array Nat) (x : Nat), x + f = n → Pre n p x → Up k p x → (∀ p', Pre n p' n → Up k p' n → G p' s) → (kas_bin f p x).kasWp cmp G s
  | 0, p, x, e, hP, hU, h => by
    have e : x = n := by omega
    subst e
    exact h p hP hU
  | f + 1, p, x, e, hP, hU, h => by
    have sz := hP.sz
    show KasT.kasWp cmp ((kas_place p x x 0 x).bind _) G s
    rw [KasT.kasWp_bind]
    refine place_wp hc (by omega) hP hU x 0 x (Nat.zero_le _) (Nat.le_refl _) (by omega) (fun i z => by omega) (fun i z1 z2 => by omega) fun l hl a b => ?_
    have g : ∀ m, m < n → at' (bubble p x (x - l)) m = if m = l then at' p x else if l < m ∧ m ≤ x then at' p (m - 1) else at' p m := fun m hm => by
      rw [at_bub (by omega) (by omega) (by omega), show x - (x - l) = l by omega]
    have px := hP.hi x (Nat.le_refl _) (by omega)
    refine bin_wp hc f _ (x + 1) (by omega) ⟨by rw [bubble_size]; exact sz, by omega, fun i hi => ?_, fun i h1 h2 => ?_⟩ (fun i j hij hj => ?_) h
    · rw [g i (by omega)]
      split
      · omega
      · split
        · have := hP.lo (i - 1) (by omega); omega
        · have := hP.lo i (by omega); omega
    · rw [g i h2, if_neg (by omega), if_neg (by omega)]
      exact hP.hi i (by omega) h2
    · rw [g i (by omega), g j (by omega)]
      by_cases c1 : i = l
      · rw [if_pos c1, if_neg (by omega), if_pos ⟨by omega, by omega⟩]
        exact .inl (b (j - 1) (by omega) (by omega))
      · rw [if_neg c1]
        by_cases c2 : l < i
        · rw [if_pos ⟨c2, by omega⟩, if_neg (by omega), if_pos ⟨by omega, by omega⟩]
          exact hU _ _ (by omega) (by omega)
        · rw [if_neg (by omega)]
          by_cases c3 : j = l
          · rw [if_pos c3]
            have k1 := a i (by omega)
            have k2 := hP.lo i (by omega)
            unfold lx
            omega
          · rw [if_neg c3]
            by_cases c4 : l < j
            · rw [if_pos ⟨c4, by omega⟩]
              by_cases c5 : i = j - 1
              · omega
              · exact hU i (j - 1) (by omega) (by omega)
            · rw [if_neg (by omega)]
              exact hU i j hij (by omega)
theorem sort_wp (hc : ∀ (i j : Nat) (C : Bool → Shared → Prop), i < n → j < n → C (decide (k i < k j)) s → cmp i j C s) {G : Array Nat → Shared → Prop} (h1 : 1 ≤ n) (h : ∀ p', Pre n p' n → Up k p' n → G p' s) : (kas_sort n).kasWp cmp G s := by
  unfold kas_sort
  rw [KasT.kasWp_bind]
  refine count_wp hc h1 fun p' m h0 P U => ?_
  have le := P.le
  show KasT.kasWp cmp (if m < n then _ else _) G s
  by_cases c : m < n
  · rw [if_pos c]
    have e : max m 1 = m := by omega
    rw [e]
    exact bin_wp hc (n - m) p' m (by omega) P U h
  · rw [if_neg c]
    have e : m = n := by omega
    subst e
    exact h p' P U
end
end Ks
namespace Ks
open PySem PySem.W PyProof.Rows
def Kp (D : List Addr) (h h' : Heap) : Prop := ∀ b o, b ∉ D → h.get? b = some o → h'.get? b = some o
theorem Kp.refl (D : List Addr) (h : Heap) : Kp D h h := fun _ _ _ e => e
theorem Kp.trans {D : List Addr} {a b c : Heap} (x : Kp D a b) (y : Kp D b c) : Kp D a c := fun e o n h => y e o n (x e o n h)
theorem Kp.push {D : List Addr} {a b : Heap} (x : Kp D a b) (o : Obj) : Kp D a (b.push o) := fun e u n h => Heap.get?_push_of_some _ (x e u n h)
theorem Kp.upd {D : List Addr} {a b : Heap} {c : Addr} {f : Obj → Obj} (x : Kp D a b) (hc : c ∈ D) : Kp D a (b.update c f) := fun e u n h => by
  have ne : e ≠ c := fun z => n (z ▸ hc)
  exact ((Heap.SameBut.update b c f).2 e ne).trans (x e u n h)
section
variable {prog : Program} {w : World} {A : Around} {E : Value → Shared → Prop} {s : Shared} {a : Addr} {f : Value} {vs : List Value} {kf : Nat → Int}
theorem ints_snoc {ks : List Value} {kz : List Int} {n : Int} {t : Tok} (h : IntsAre ks kz) : IntsAre (ks ++ [.int n t]) (kz ++ [n]) := ksk_snoc h
theorem sort_keyed {n : Nat} {P : PySem.Fin → Shared → Prop} (ho : s.heap.get? a = some (seqObj "list" vs.toArray n)) (h64 : vs.length < 64)
    (hkey : ∀ (i : Nat) (v : Value) (h' : Heap) (tk : Nat) (Q : Value → Shared → Prop), vs[i]? = some v → (∀ b o, b ≠ a → s.heap.get? b = some o → h'.get? b = some o) →
      (∀ h'' tk' t, (∀ b o, h'.get? b = some o → h''.get? b = some o) → Q (.int (kf i) t) { s with heap := h'', toks := tk' }) → wpAny (model prog w) A (call f [v]) Q (fun _ _ => False) { s with heap := h', toks := tk })
    (h : ∀ (h' : Heap) (tk : Nat) (p : Array Nat) (c : Nat), (∀ b o, b ≠ a → s.heap.get? b = some o → h'.get? b = some o) → h'.get? a = some (seqObj "list" (p.toList.map fun i => vs.getD i Value.none).toArray c) → Pre vs.length p vs.length → Up kf p vs.length →
      P (.done (.ret .none)) { s with heap := h', toks := tk }) : wpAny (model prog w) A (ksk_tree a f false) P E s := by
  have ha : a < s.heap.objs.size := Heap.lt_size ho
  obtain ⟨e1, ho1⟩ : ∃ e1, (s.heap.update a (Obj.mapSeq fun _ => (#[] : Array Value))).get? a = some (seqObj "list" #[] e1) := ⟨_, get?_update_seq ho fun _ => #[]⟩
  have s1 := Heap.SameBut.update s.heap a (Obj.mapSeq fun _ => (#[] : Array Value))
  unfold ksk_tree
  refine wpAny_bind (listItems_at ho rfl ?_)
  refine wpAny_bind (listUpdate_at ho rfl ?_ (by rw [List.size_toArray, sizeLine_eq]; omega) (Nat.zero_le _))
  refine wpAny_bind (seqEpoch_at ho1 rfl ?_)
  refine wpAny_bind (wpAny_newTuple ?_ (by show vs.length ≤ _; rw [sizeLine_eq]; omega))
  refine wpAny_bind (wpAny_newList ?_ (Nat.zero_le _))
  refine wpAny_holding ?_
  have hkS : ((s.heap.update a (Obj.mapSeq fun _ => (#[] : Array Value))).push (seqObj "tuple" vs.toArray 0)).objs.size = s.heap.objs.size + 1 := by rw [size_push', Heap.size_update]
  obtain ⟨h0, eh0⟩ : ∃ h0, ((s.heap.update a (Obj.mapSeq fun _ => (#[] : Array Value))).push (seqObj "tuple" vs.toArray 0)).push (seqObj "list" #[] 0) = h0 := ⟨_, rfl⟩
  obtain ⟨kS, ekS⟩ : ∃ kS, ((s.heap.update a (Obj.mapSeq fun _ => (#[] : Array Value))).push (seqObj "tuple" vs.toArray 0)).objs.size = kS := ⟨_, rfl⟩
  have k0 : ∀ b o, b ≠ a → s.heap.get? b = some o → h0.get? b = some o := fun b o nb e => by
    rw [← eh0]
    exact Heap.get?_push_of_some _ (Heap.get?_push_of_some _ ((s1.2 b nb).trans e))
  have a0 : h0.get? a = some (seqObj "list" #[] e1) := by rw [← eh0]; exact Heap.get?_push_of_some _ (Heap.get?_push_of_some _ ho1)
  have kS0 : h0.get? kS = some (seqObj "list" #[] 0) := by rw [← eh0, ← ekS]; exact Heap.get?_push_size _ rfl
  have kSa : kS ≠ a := by rw [← ekS, hkS]; exact Nat.ne_of_gt (Nat.lt_succ_of_lt ha)
  have kSs : ∀ b o, s.heap.get? b = some o → b ≠ kS := fun b o e z => by
    have := Heap.lt_size e
    rw [z, ← ekS, hkS] at this
    exact absurd this (Nat.not_lt.mpr (Nat.le_succ _))
  rw [ekS]
  show wpAny (model prog w) A (ksk_rest a f false vs.toArray e1 (.ref kS)) P E { s with heap := ((s.heap.update a (Obj.mapSeq fun _ => (#[] : Array Value))).push (seqObj "tuple" vs.toArray 0)).push (seqObj "list" #[] 0) }
  rw [eh0]
  unfold ksk_rest
  refine wpAny_bind (wpAny_rule ?_)
  rw [← Array.forIn_toList]
  simp only [List.toList_toArray]
  refine wpAny_bind (ksk_fold (fun i s' => ∃ (h' : Heap) (tk : Nat) (ks : List Value) (kz : List Int) (c : Nat), s' = { s with heap := h', toks := tk } ∧ (∀ b o, b ≠ a → s.heap.get? b = some o → h'.get? b = some o) ∧ h'.get? a = some (seqObj "list" #[] e1) ∧ h'.get? kS = some (seqObj "list" ks.toArray c) ∧ IntsAre ks kz ∧ ks.length = i ∧ kz = (List.range i).map kf)
    vs 0 { s with heap := h0 } ⟨h0, s.toks, [], [], 0, rfl, k0, a0, kS0, .nil, rfl, rfl⟩ ?_ ?_)
  · rintro j x s' hx ⟨h', tk, ks, kz, c, rfl, k1, a1, kS1, hI, hl, rfl⟩
    refine wpAny_bind (wpAny_attempt (wpAny_mono (hkey j x h' tk (fun v s'' => ∃ h'' tk' t, v = .int (kf j) t ∧ s'' = { s with heap := h'', toks := tk' } ∧ ∀ b o, h'.get? b = some o → h''.get? b = some o) hx k1 (fun h'' tk' t k2 => ⟨h'', tk', t, rfl, rfl, k2⟩)) ?_ fun _ _ z => z.elim))
    rintro v s'' ⟨h'', tk', t, rfl, rfl, k2⟩
    have kS2 := k2 _ _ kS1
    have jl : j < vs.length := (List.getElem?_eq_some_iff.mp hx).1
    have ea : ks.toArray.push (.int (kf j) t) = (ks ++ [Value.int (kf j) t]).toArray := by simp
    dsimp only
    refine wpAny_bind (listUpdate_at kS2 rfl ?_ (by rw [List.size_toArray, sizeLine_eq]; omega) (Nat.le_trans (Nat.le_of_eq (Array.size_push ..)) (by rw [List.size_toArray, sizeLine_eq]; omega)))
    have s2 := Heap.SameBut.update h'' kS (Obj.mapSeq (·.push (Value.int (kf j) t)))
    obtain ⟨c2, hc2⟩ : ∃ c2, (h''.update kS (Obj.mapSeq (·.push (Value.int (kf j) t)))).get? kS = some (seqObj "list" (ks ++ [Value.int (kf j) t]).toArray c2) := ⟨_, by rw [← ea]; exact get?_update_seq kS2 (·.push (Value.int (kf j) t))⟩
    refine wpAny_pure ⟨rfl, _, tk', ks ++ [Value.int (kf j) t], _, c2, rfl, fun b o nb e => ?_, ?_, hc2, ints_snoc hI, ?_, ?_⟩
    · exact (s2.2 b (kSs b o e)).trans (k2 _ _ (k1 b o nb e))
    · exact (s2.2 a (Ne.symm kSa)).trans (k2 _ _ a1)
    · rw [List.length_append, hl]; rfl
    · have e : 0 + j = j := by omega
      rw [e, List.range_succ, List.map_append]
      rfl
  rintro s' ⟨h', tk, ks, kz, c, rfl, k1, a1, kS1, hI, hl, rfl⟩
  have hl : ks.length = vs.length := by rw [hl]; omega
  refine wpAny_bind (listItems_at kS1 rfl ?_)
  have hgo : ∀ (st : SortSt) (p : Array Nat), Pre vs.length p vs.length → Up kf p vs.length → (arrOf st).map (·.2) = (p.toList.map fun i => vs.getD i Value.none).toArray → failedOf st = none → wpAny (model prog w) A (ksk_tail a false e1 (.ref kS) st) P E { s with heap := h', toks := tk } := fun st p hP hU hout hf => by
    obtain ⟨ck, hck⟩ : ∃ ck, (h'.update kS (Obj.mapSeq fun _ => (#[] : Array Value))).get? kS = some (seqObj "list" #[] ck) := ⟨_, get?_update_seq kS1 fun _ => #[]⟩
    have s3 := Heap.SameBut.update h' kS (Obj.mapSeq fun _ => (#[] : Array Value))
    have a3 : (h'.update kS (Obj.mapSeq fun _ => (#[] : Array Value))).get? a = some (seqObj "list" #[] e1) := (s3.2 a (Ne.symm kSa)).trans a1
    have s4 := Heap.SameBut.update (h'.update kS (Obj.mapSeq fun _ => (#[] : Array Value))) a (Obj.mapSeq fun _ => (p.toList.map fun i => vs.getD i Value.none).toArray)
    obtain ⟨c2, hc2⟩ : ∃ c2, ((h'.update kS (Obj.mapSeq fun _ => (#[] : Array Value))).update a (Obj.mapSeq fun _ => (p.toList.map fun i => vs.getD i Value.none).toArray)).get? a = some (seqObj "list" (p.toList.map fun i => vs.getD i Value.none).toArray c2) := ⟨_, get?_update_seq a3 fun _ => (p.toList.map fun i => vs.getD i Value.none).toArray⟩
    have hsz : (p.toList.map fun i => vs.getD i Value.none).toArray.size = vs.length := by rw [List.size_toArray, List.length_map, Array.length_toList, hP.sz]
    unfold ksk_tail
    rw [hout]
    refine wpAny_bind (listUpdate_at kS1 rfl ?_ (by rw [List.size_toArray, sizeLine_eq]; omega) (Nat.zero_le _))
    refine wpAny_bind (wpAny_letGo ?_)
    refine wpAny_bind (seqEpoch_at a3 rfl ?_)
    refine wpAny_bind (listUpdate_at a3 rfl ?_ (Nat.zero_le _) (Nat.le_trans (Nat.le_of_eq hsz) (by rw [sizeLine_eq]; omega)))
    rw [hf]
    simp only [bne_self_eq_false, Bool.false_eq_true, if_false]
    exact wpAny_pure (h _ tk p c2 (fun b o nb e => (s4.2 b nb).trans ((s3.2 b (kSs b o e)).trans (k1 b o nb e))) hc2 hP hU)
  unfold ksk_end
  dsimp only
  simp only [Bool.false_eq_true, if_false]
  have kzl : ((List.range (0 + vs.length)).map kf) = (List.range vs.length).map kf := by rw [Nat.zero_add]
  rw [kzl] at hI
  by_cases h2 : vs.toArray.size < 2
  · have h2' : vs.length < 2 := by simpa using h2
    rw [if_pos h2, if_pos h2]
    refine wpAny_bind (wpAny_pure ?_)
    rw [StateT.run_pure]
    refine wpAny_bind (wpAny_pure ?_)
    dsimp only
    refine hgo _ (List.toArray (List.range vs.length)) (id_pre (Nat.le_refl _)) (fun i j hij hj => by omega) ?_ rfl
    show ((ks.toArray.zip vs.toArray).map (·.2)) = _
    apply Array.toList_inj.mp
    rw [Array.toList_map, ksk_zip]
    simp only [List.toList_toArray]
    rw [List.map_snd_zip (by omega)]
    refine List.ext_getElem? fun i => ?_
    by_cases hi : i < vs.length
    · rw [List.getElem?_map, List.getElem?_range hi, List.getElem?_eq_getElem hi]
      simp [hi]
    · rw [List.getElem?_eq_none (by omega), List.getElem?_eq_none (by rw [List.length_map, List.length_range]; omega)]
  · have h2' : 2 ≤ vs.length := by have : ¬ vs.length < 2 := by simpa using h2
                                   omega
    rw [if_neg h2, if_neg h2]
    rw [ksk_kind (keys := ks.toArray) (kz := (List.range vs.length).map kf) (by simpa using hI) (by rw [List.size_toArray]; omega)]
    refine wpAny_bind (wpAny_pure ?_)
    refine wpAny_bind (wpAny_mono (kat_run (Q := fun st' s' => s' = { s with heap := h', toks := tk } ∧ ∃ p : Array Nat, Pre vs.length p vs.length ∧ Up kf p vs.length ∧ arrOf st' = p.map (kas_item (ks.toArray.zip vs.toArray)) ∧ failedOf st' = none)
      (G := fun p s' => s' = { s with heap := h', toks := tk } ∧ Pre vs.length p vs.length ∧ Up kf p vs.length) hl h2' h64 (fun p st' s' _ b1 b2 ⟨e, c1, c2⟩ => ⟨e, p, c1, c2, b1, b2⟩) (sort_wp (k := kf) (fun i j C hi hj hC => ?_) (by omega) fun p hP hU => ⟨rfl, hP, hU⟩)) ?_ fun _ _ z => z)
    · have g : ∀ i, i < vs.length → ∃ t, ks.getD i Value.none = .int (kf i) t := fun i hi => by
        have e := IntsAre.int_at hI i (ks.getD i Value.none) (by rw [List.getD_eq_getElem?_getD, List.getElem?_eq_getElem (by omega)]; rfl)
        obtain ⟨t, e⟩ := e
        refine ⟨t, ?_⟩
        rw [e]
        congr 1
        rw [List.getD_eq_getElem?_getD, List.getElem?_map, List.getElem?_range hi]
        rfl
      obtain ⟨t1, e1⟩ := g i hi
      obtain ⟨t2, e2⟩ := g j hj
      unfold kas_ask
      rw [e1, e2]
      exact kat_lt_int hC
    · rintro ⟨⟨⟩, st'⟩ s' ⟨rfl, p, hP, hU, har, hf⟩
      exact hgo st' p hP hU (kat_snds hl har) hf
end
end Ks
namespace Ks
open PySem PySem.W PyProof.Rows
section
variable {prog : Program} {w : World} {A : Around} {E : Value → Shared → Prop} {s : Shared} {a : Addr} {vs : List Value} {kf : Nat → Int}
def PairAt (h : Heap) (vs : List Value) (kf : Nat → Int) : Prop := ∀ i, i < vs.length → ∃ (b : Addr) (o : Obj) (x y : Int) (t u : Tok) (n : Nat), vs.getD i Value.none = .ref b ∧ h.get? b = some o ∧ o.cls = .type "tuple" ∧ o.data = .seq #[.int x t, .int y u] n ∧ 0 ≤ y ∧ y < 1000 ∧ kf i = x * 1000 + y
theorem PairAt.keep {h h' : Heap} (hp : PairAt h vs kf) (k : ∀ b o, b ≠ a → h.get? b = some o → h'.get? b = some o) (ha : ∀ xs n, h.get? a = some (seqObj "list" xs n) → True) (hc : ∀ o, h.get? a = some o → o.cls ≠ .type "tuple") : PairAt h' vs kf := fun i hi => by
  obtain ⟨b, o, x, y, t, u, n, e, ho, hcl, r⟩ := hp i hi
  exact ⟨b, o, x, y, t, u, n, e, k b o (fun z => by subst z; exact hc o ho hcl) ho, hcl, r⟩
end
end Ks
namespace L2
open PySem PySem.Spec PyProof.Rows
theorem vals_map {α : Type} {f : α → V} {g : α → Value} : ∀ (l : List α), (∀ i ∈ l, RelV (f i) (g i)) → Vals (l.map f) (l.map g)
  | [], _ => .nil
  | a :: r, h => .cons (h a (.head _)) (vals_map r fun i hi => h i (.tail _ hi))
theorem pre_lt {n : Nat} {p : Array Nat} (h : Ks.Pre n p n) {i : Nat} (hi : i ∈ p.toList) : i < n := by
  obtain ⟨j, hj, e⟩ := List.getElem_of_mem hi
  have hj' : j < n := by
    rw [Array.length_toList] at hj
    have := h.sz
    omega
  have z := h.lt hj'
  rw [Ks.at_of (x := i) (by rw [← Array.getElem?_toList, List.getElem?_eq_getElem hj, e])] at z
  exact z
section
variable {prog : Program} {w : World} {A : Around} {E : Value → Shared → Prop} {s : Shared}
theorem collect_range {r : Addr} {a b : Int} {t u v : Tok} {n : Nat} {Q : List Value → Shared → Prop} (hh : A.handled = none) (hr : IsRange s.heap r a b 1 t u v) (hsmall : Builtin.Range.small a b 1 = true) (hn : Builtin.Range.rangeSize a b 1 = n) (hlen : n ≤ 2 ^ 24)
    (h : ∀ h' tk acc, (∀ b o, s.heap.get? b = some o → h'.get? b = some o) → s.heap.objs.size < h'.objs.size → ItemsOf (fun i v => ∃ t, v = .int (a + i * 1) t) acc n → Q acc.toList { s with heap := h', toks := tk }) :
    wpAny (model prog w) A (collect (.ref r)) Q E s := by
  unfold collect
  refine wpAny_bind (wpAny_runValue (codeAny_builtin entry_proto_collect' ?_))
  rw [Around.under_plainId F.plain_proto_collect _]
  show wpAny _ _ (do again (.builtin "list.__iadd__" ⟨[← newList [], .ref r], []⟩)) _ _ s
  refine wpAny_bind (wpAny_newList (wpAny_pure ⟨Code.quiet_builtin _ (by decide +kernel), codeAny_builtin entry_list_iadd' ?_⟩))
  rw [Around.under_plainId F.plain_list_iadd _]
  have hS : (s.heap.push { cls := .type "list", data := .seq (#[] : Array Value) }).get? s.heap.objs.size = some { cls := .type "list", data := .seq (#[] : Array Value) 0 } := Heap.get?_push_size _ rfl
  refine wpAny_extend_range (A := A) (R := fun r s' => match r with
    | .ok (.ret v) => wpAny (model prog w) A (match v with
      | .ref a => do
        let o ← load a
        match o.data with
        | .seq xs _ => pure xs.toList
        | _ => unsupported "internal:collect"
      | _ => unsupported "internal:collect") Q E s'
    | .ok _ => False
    | .error e => E e s') (s := { s with heap := s.heap.push { cls := .type "list", data := .seq (#[] : Array Value) } }) hh (Heap.get?_push_of_some _ hr) hsmall hn hlen s.heap.objs.size (.ref s.heap.objs.size) 0 hS fun h' tk acc c' k1 k2 k3 => ?_
  show wpAny _ A (load s.heap.objs.size >>= _) _ _ _
  refine wpAny_bind (wpAny_load k2 ?_)
  exact wpAny_pure (h h' tk acc (fun b o e => k1 b o (Nat.ne_of_lt (Heap.lt_size e)) (Heap.get?_push_of_some _ e)) (Heap.lt_size k2) k3)
theorem sorted_keyed {r : Addr} {a b : Int} {t u v : Tok} {n : Nat} {q : Addr} {kf : Nat → Int} {Q : Value → Shared → Prop} (hh : A.handled = none) (hr : IsRange s.heap r a b 1 t u v) (hsmall : Builtin.Range.small a b 1 = true) (hn : Builtin.Range.rangeSize a b 1 = n) (h64 : n < 64)
    (hkey : ∀ (i : Nat) (tv : Tok) (h' : Heap) (tk : Nat) (Q' : Value → Shared → Prop), i < n → (∀ b o, s.heap.get? b = some o → h'.get? b = some o) →
      (∀ h'' tk' t, (∀ b o, h'.get? b = some o → h''.get? b = some o) → Q' (.int (kf i) t) { s with heap := h'', toks := tk' }) → wpAny (model prog w) A.in1.in1 (call (.ref q) [.int (a + i) tv]) Q' (fun _ _ => False) { s with heap := h', toks := tk })
    (h : ∀ (h' : Heap) (tk : Nat) (p : Array Nat) (c : Nat) (l : Addr) (its : List Value), (∀ b o, s.heap.get? b = some o → h'.get? b = some o) → s.heap.objs.size ≤ l → h'.get? l = some (seqObj "list" its.toArray c) →
      Vals (p.toList.map fun (i : Nat) => V.int (a + (i : Nat))) its → Ks.Pre n p n → Ks.Up kf p n → Q (.ref l) { s with heap := h', toks := tk }) :
    wpAny (model prog w) A (call (.builtin "sorted") [.ref r] [(Str.ofString "key", .ref q)]) Q E s := by
  refine call_function_entry_kw kind_sorted plain_sorted entry_sorted (ksk_s1 _ _) ?_
  unfold Builtin.«sorted»
  refine wpAny_bind (m := checkCount "sorted" 1 1 _) (wpAny_pure ?_)
  refine wpAny_bind (collect_range (A := A.in1) hh hr hsmall hn (by omega) fun h1 tk1 acc k1 hlt it => ?_)
  have hal : acc.toList.length = n := by rw [Array.length_toList, it.1]
  refine wpAny_bind (wpAny_newList ?_ (by rw [hal, sizeLine_eq]; omega))
  have hl : s.heap.objs.size ≤ h1.objs.size := Nat.le_of_lt hlt
  have ho : (h1.push (seqObj "list" acc.toList.toArray 0)).get? h1.objs.size = some (seqObj "list" acc.toList.toArray 0) := Heap.get?_push_size _ rfl
  have k2 : ∀ b o, s.heap.get? b = some o → (h1.push (seqObj "list" acc.toList.toArray 0)).get? b = some o := fun b o e => Heap.get?_push_of_some _ (k1 b o e)
  have k3 : ∀ b o, s.heap.get? b = some o → b ≠ h1.objs.size := fun b o e => Nat.ne_of_lt (Heap.lt_size (k1 b o e))
  refine wpAny_bind (wpAny_holding (wpAny_call_entry_kw (A := A.in1) slot_list_sort ⟨_, ho, rfl⟩ entry_list_sort (?_ : wpAny (model prog w) A.in1.in1 (Builtin.«list.sort» ⟨[.ref h1.objs.size], [(Str.ofString "key", .ref q)]⟩) _ _ _) (ksk_l1 _ _)))
  rw [ksk_t1]
  refine Ks.sort_keyed (s := { s with heap := h1.push (seqObj "list" acc.toList.toArray 0), toks := tk1 }) (kf := kf) (vs := acc.toList) ho (by omega) (fun i v h' tk Q' hv kk hq => ?_) fun h' tk p c kk ha hp hu => ?_
  · obtain ⟨tv, rfl⟩ := it.2 i v (by rw [← Array.getElem?_toList]; exact hv)
    have hi : i < n := by rw [← hal]; exact (List.getElem?_eq_some_iff.mp hv).1
    rw [Int.mul_one]
    exact hkey i tv h' tk Q' hi (fun b o e => kk b o (k3 b o e) (k2 b o e)) hq
  · refine ⟨.none, rfl, ?_⟩
    refine wpAny_pure ⟨_, rfl, ?_⟩
    rw [hal] at hp hu
    refine h h' tk p c h1.objs.size (p.toList.map fun i => acc.toList.getD i Value.none) (fun b o e => kk b o (k3 b o e) (k2 b o e)) hl ha ?_ hp hu
    have hps : ∀ i ∈ p.toList, i < n := fun i hi => pre_lt hp hi
    refine vals_map _ fun i hi => ?_
    have h1 := hps i hi
    have h2 : acc.toList[i]? = some acc.toList[i] := List.getElem?_eq_getElem (by omega)
    obtain ⟨tv, e⟩ := it.2 i acc.toList[i] (by rw [← Array.getElem?_toList]; exact h2)
    rw [List.getD_eq_getElem?_getD, h2]
    exact ⟨tv, by rw [Int.mul_one] at e; exact e⟩
end
end L2
namespace L2
open PySem PySem.Spec PyProof.Rows
def Bm (mg : Str → Option Value) (base : Heap) : Prop := ∃ bm ob, mg "__builtins__" = some (.ref bm) ∧ bm ≠ builtinsNs ∧ base.get? bm = some ob ∧ ob.cls = .type "module" ∧ ob.dict = some builtinsNs ∧ ob.data = .plain
def CodO (c : Addr) (q : Str) : HO := .ext fun h => h.CodeRec (.ref c) q
def LamO (f c : Addr) (q : Str) (ps : Arguments) (b : Expr) (sc : Scope) (cl : List (Str × Addr)) : HO := .ext fun h => ∃ pm ctv, h.get? f = some (PySem.W.kla_obj "<lambda>" q ps b sc cl pm c ctv)
def Tab1 (H : Hp) (P : Addr) (pos : Pos) (q : Str) (c : Addr) : Prop := H P = some (.tbl #[rawInt pos.line, rawInt pos.col, .ref c]) ∧ H c = some (CodO c q)
def Tab (H : Hp) (P : Addr) (pos : Pos) (q : Str) : Prop := H P = some (.tbl #[]) ∨ ∃ c, Tab1 H P pos q c
def SameT (P : Addr) (H H' : Hp) : Prop := ∀ b o, b ≠ P → H b = some o → H' b = some o
theorem SameT.of {P : Addr} {H H' : Hp} (h : Same H H') : SameT P H H' := fun b o _ e => h b o e
theorem SameT.trans {P : Addr} {H H1 H2 : Hp} (a : SameT P H H1) (b : SameT P H1 H2) : SameT P H H2 := fun c o n e => b c o n (a c o n e)
theorem SameT.same {P : Addr} {H H1 H2 : Hp} (a : SameT P H H1) (b : Same H1 H2) : SameT P H H2 := a.trans (.of b)
theorem Tab.same {P : Addr} {pos : Pos} {q : Str} {H H' : Hp} (t : Tab H P pos q) (h : Same H H') : Tab H' P pos q := by
  rcases t with t | ⟨c, t1, t2⟩
  · exact .inl (h _ _ t)
  · exact .inr ⟨c, h _ _ t1, h _ _ t2⟩
theorem Tab.at {P : Addr} {pos : Pos} {q : Str} {H : Hp} (t : Tab H P pos q) : ∃ ps, H P = some (.tbl ps) := by
  rcases t with t | ⟨c, t1, t2⟩
  · exact ⟨_, t⟩
  · exact ⟨_, t1⟩
theorem SameT.seq {K : PySem.W.Frag} {P : Addr} {pos : Pos} {q : Str} {H H' : Hp} {a : Addr} {xs : List V} (e : SameT P H H') (t : Tab H P pos q) (h : SqL K H a xs) : SqL K H' a xs := by
  obtain ⟨ps, t⟩ := t.at
  have ne : ∀ o, H a = some o → o ≠ .tbl ps → a ≠ P := fun o ho hn z => by subst z; rw [ho] at t; exact hn (Option.some.inj t)
  rcases h with (h | ⟨o, h⟩) | h
  · exact .inl (.inl (e _ _ (ne _ h (fun z => nomatch z)) h))
  · exact .inl (.inr ⟨o, e _ _ (ne _ h (fun z => nomatch z)) h⟩)
  · exact .inr h
theorem SameT.get {P : Addr} {pos : Pos} {q : Str} {H H' : Hp} {a : Addr} {o : HO} (e : SameT P H H') (t : Tab H P pos q) (h : H a = some o) (n : ∀ ps, o ≠ .tbl ps := by intro _ z; exact nomatch z) : H' a = some o := by
  obtain ⟨ps, t⟩ := t.at
  exact e a o (fun z => by subst z; rw [h] at t; exact n _ (Option.some.inj t)) h
theorem SameT.own {P : Addr} {H H1 : Hp} {a : Addr} {o : HO} (s : SameT P H H1) (h : H a = none) : SameT P H (upd H1 a o) := fun b u n e => by rw [upd_ne (ne_of_none e h)]; exact s b u n e
theorem Tab.upd {P : Addr} {pos : Pos} {q : Str} {H : Hp} {a : Addr} {xs : List V} {o : HO} (t : Tab H P pos q) (h : H a = some (.lst xs)) : Tab (upd H a o) P pos q := by
  rcases t with t | ⟨c, t1, t2⟩
  · exact .inl (by rw [upd_ne (ne_of t h (fun z => nomatch z))]; exact t)
  · exact .inr ⟨c, by rw [upd_ne (ne_of t1 h (fun z => nomatch z))]; exact t1, by rw [upd_ne (ne_of t2 h (fun z => nomatch z))]; exact t2⟩
theorem SameT.free {P : Addr} {pos : Pos} {q : Str} {H H' : Hp} (e : SameT P H H') (t : Tab H' P pos q) {l : Addr} (h : H' l = none) : H l = none := by
  cases z : H l with
  | none => rfl
  | some o =>
    obtain ⟨ps, t⟩ := t.at
    by_cases c : l = P
    · subst c; rw [t] at h; cases h
    · rw [e l o c z] at h; cases h
section
variable {X : Cx}
def tLam (P : Addr) (pos : Pos) (q : Str) (ps : Arguments) (b : Expr) (sc : Scope) (cl : List (Str × Addr)) : TE := fun σ H Q => Tab H P pos q ∧
  ∀ H' c f, SameT P H H' → Tab1 H' P pos q c → H f = none → H' f = some (LamO f c q ps b sc cl) → Q (.ref f) H'
theorem cod_ok {w : World} {p : Program} {H : Hp} {h : Heap} {c : Addr} {q : Str} (r : h.CodeRec (.ref c) q) : ObjOk p w H h c (CodO c q) := by
  obtain ⟨c2, o, vs, t, e, ho, hd, hq⟩ := id r
  cases e
  refine ⟨r, ⟨o, ho⟩, fun h1 h2 r1 k => ?_⟩
  obtain ⟨c2, o, vs, t, e, ho, hd, hq⟩ := r1
  cases e
  exact ⟨_, o, vs, t, rfl, k _ ho, hd, hq⟩
theorem lam_ok {w : World} {p : Program} {H : Hp} {h : Heap} {f c : Addr} {q : Str} {ps : Arguments} {b : Expr} {sc : Scope} {cl : List (Str × Addr)} {pm ctv : Value} (r : h.get? f = some (PySem.W.kla_obj "<lambda>" q ps b sc cl pm c ctv)) : ObjOk p w H h f (LamO f c q ps b sc cl) :=
  ⟨⟨pm, ctv, r⟩, ⟨_, r⟩, fun h1 h2 ⟨pm, ctv, r1⟩ k => ⟨pm, ctv, k _ r1⟩⟩
theorem pe_lam {pos : Pos} {c P : Addr} {ps : Arguments} {b : Expr} {sc : Scope} {cl : List (Str × Addr)} (hc : X.env.code = .ref c) (hck : PySem.W.codeHdIn X.K c P = true) (B : Bm X.mg X.base) (hdef : defaultsOf ps X.env = ([], [])) (hcl : closureFor sc X.env = pure cl) :
    PE X (.Lambda ps b sc pos) (tLam P pos (X.env.qual ++ "<lambda>") ps b sc cl) := by
  intro pins s σ H Q I h
  obtain ⟨t, q⟩ := h
  have C : PySem.W.CodeHd X.base c P := PySem.W.codeHd_of_K I.mod.kin hck
  refine PySem.W.kla_eval hdef ?_
  have hg : s.heap.Ns mainGlobals X.mg := I.mod.glob.keeps I.bk
  obtain ⟨bm, ob, b1, b2, b3, b4, b5, b6⟩ := B
  have nP : ∀ {bb : Addr} {oo : Obj}, X.base.get? bb = some oo → bb ≠ P := fun {bb oo} e z => by
    obtain ⟨tp, ht⟩ := t.at
    rw [z] at e
    rw [(I.bs _ _ e).2] at ht
    cases ht
  have hgP : mainGlobals ≠ P := by
    obtain ⟨o, es, ep, e, _⟩ := I.mod.glob
    exact nP e
  have hbG : bm ≠ mainGlobals := fun z => by
    obtain ⟨o, es, ep, e, hd, _⟩ := I.mod.glob
    rw [z, e] at b3; cases b3; rw [hd] at b6; cases b6
  have BA : s.heap.BuiltinsAt X.mg P := ⟨bm, ob, b1, b2, hbG, nP b3, I.bk _ _ b3, b4, b5, b6⟩
  rcases t with t | ⟨c1, t1, t2⟩
  · have hP : s.heap.get? P = some (PySem.W.tabObj #[]) := I.hok P _ t
    refine PySem.W.kla_makeFunction (mg := X.mg) hcl I.ok.glob hg hc (C.keeps I.bk) hP trivial rfl hgP BA fun c' ctv h' tk hx hge hlt hrec htb => ?_
    have hc0 : H c' = none := I.hok.fresh hge
    have hf0 : H h'.objs.size = none := I.hok.fresh (Nat.le_trans hge (Nat.le_of_lt hlt))
    have PltS : P < s.heap.objs.size := Heap.lt_size hP
    have hcP : c' ≠ P := Nat.ne_of_gt (Nat.lt_of_lt_of_le PltS hge)
    have hfP : h'.objs.size ≠ P := Nat.ne_of_gt (Nat.lt_trans (Nat.lt_of_lt_of_le PltS hge) hlt)
    have hfc : h'.objs.size ≠ c' := Nat.ne_of_gt hlt
    obtain ⟨f, hf⟩ : ∃ f, h'.objs.size = f := ⟨_, rfl⟩
    have hfo : (h'.push (PySem.W.kla_obj "<lambda>" (X.env.qual ++ "<lambda>") ps b sc cl ((X.mg "__name__").getD .none) c' ctv)).get? f = some (PySem.W.kla_obj "<lambda>" (X.env.qual ++ "<lambda>") ps b sc cl ((X.mg "__name__").getD .none) c' ctv) := by
      rw [← hf]; exact Heap.get?_push_size _ rfl
    rw [hf] at hf0 hfP hfc
    have fge : s.heap.objs.size ≤ f := by rw [← hf]; exact Nat.le_trans hge (Nat.le_of_lt hlt)
    obtain ⟨H', eH⟩ : ∃ H', upd (upd (upd H P (.tbl #[rawInt pos.line, rawInt pos.col, .ref c'])) c' (CodO c' (X.env.qual ++ "<lambda>"))) f (LamO f c' (X.env.qual ++ "<lambda>") ps b sc cl) = H' := ⟨_, rfl⟩
    have key : ∀ z, z ≠ P → z ≠ c' → z ≠ f → H' z = H z := fun z n1 n2 n3 => by
      rw [← eH, upd_ne n3, upd_ne n2, upd_ne n1]
    have atP : H' P = some (.tbl #[rawInt pos.line, rawInt pos.col, .ref c']) := by
      rw [← eH, upd_ne hfP.symm, upd_ne hcP.symm, upd_same]
    have atc : H' c' = some (CodO c' (X.env.qual ++ "<lambda>")) := by
      rw [← eH, upd_ne hfc.symm, upd_same]
    have atf : H' f = some (LamO f c' (X.env.qual ++ "<lambda>") ps b sc cl) := by
      rw [← eH, upd_same]
    have keyS : ∀ z u, z ≠ P → H z = some u → H' z = some u := fun z u n1 e => by
      rw [key z n1 (ne_of_none e hc0) (ne_of_none e hf0)]; exact e
    have keep : ∀ z o, z ≠ P → s.heap.get? z = some o → (h'.push (PySem.W.kla_obj "<lambda>" (X.env.qual ++ "<lambda>") ps b sc cl ((X.mg "__name__").getD .none) c' ctv)).get? z = some o := fun z o n e => Heap.get?_push_of_some _ (hx z o n e)
    have nPn : ∀ z, H z = none → z ≠ P := fun z n e => by rw [e, t] at n; cases n
    have hP2 := Heap.get?_push_of_some (PySem.W.kla_obj "<lambda>" (X.env.qual ++ "<lambda>") ps b sc cl ((X.mg "__name__").getD .none) c' ctv) htb
    refine ⟨.ref f, H', ?_, congrArg Value.ref hf, ?_⟩
    · refine I.un (t' := tk) ⟨fun z o e n _ _ => keep z o (nPn z n) e, fun z o e n _ _ => ⟨o.slots, keep z o (nPn z n) e⟩, fun z o e n _ => ?_, fun z o e _ => ?_, fun z xs e => keyS z _ (ne_of e t (fun y => nomatch y)) e, fun z o u e => keyS z _ (ne_of e t (fun y => nomatch y)) e, fun z ps' e => ?_⟩ fun z u e => ?_
      · have lz := Heap.lt_size e
        rw [key z (nPn z n) (Nat.ne_of_lt (Nat.lt_of_lt_of_le lz hge)) (Nat.ne_of_lt (Nat.lt_of_lt_of_le lz fge))]
        exact n
      · by_cases cz : z = P
        · subst cz; exact ⟨_, hP2⟩
        · exact ⟨o, keep z o cz e⟩
      · by_cases cz : z = P
        · subst cz
          rw [t] at e
          cases e
          exact ⟨_, by rw [atP, Array.empty_append]⟩
        · exact ⟨#[], by rw [keyS z _ cz e, Array.append_empty]⟩
      · by_cases cz : z = P
        · subst cz
          rw [atP] at e
          cases e
          exact hP2
        · by_cases cc : z = c'
          · subst cc
            rw [atc] at e
            cases e
            obtain ⟨c2, o, vs, tt, e2, ho, hd, hq⟩ := hrec
            cases e2
            exact cod_ok ⟨_, o, vs, tt, rfl, Heap.get?_push_of_some _ ho, hd, hq⟩
          · by_cases cf : z = f
            · subst cf
              rw [atf] at e
              cases e
              exact lam_ok hfo
            · rw [key z cz cc cf] at e
              refine (I.hok z u e).stay (fun y v hy e2 => keep y v ?_ e2) (fun y e2 => keyS y _ (ne_of e2 t (fun y => nomatch y)) e2) fun y xs e2 => keyS y _ (ne_of e2 t (fun y => nomatch y)) e2
              rcases hy with rfl | hy
              · exact cz
              · exact ne_of hy t (fun y => nomatch y)
    · exact q H' c' f (fun z u n e => keyS z u n e) ⟨atP, atc⟩ hf0 atf
  · have hP : s.heap.get? P = some (PySem.W.tabObj #[rawInt pos.line, rawInt pos.col, .ref c1]) := I.hok P _ t1
    refine PySem.W.kla_makeFunctionHit (mg := X.mg) (cv := .ref c1) hcl I.ok.glob hg hc (C.keeps I.bk) hP trivial ?_ BA fun ctv h' tk hk hsz => ?_
    · show (if (((pos.line : Int) == (pos.line : Int)) && ((pos.col : Int) == (pos.col : Int))) = true then some (Value.ref c1) else _) = some (.ref c1)
      simp
    have hf0 : H h'.objs.size = none := I.hok.fresh hsz
    have ne : ∀ b o, H b = some o → b ≠ h'.objs.size := fun b o e => ne_of_none e hf0
    refine ⟨.ref h'.objs.size, upd H h'.objs.size (LamO h'.objs.size c1 (X.env.qual ++ "<lambda>") ps b sc cl), I.laid (fun b o e => Heap.get?_push_of_some _ (hk b o e)) hsz (lam_ok (Heap.get?_push_size _ rfl)), rfl, ?_⟩
    refine q _ c1 _ (fun b o _ e => by rw [upd_ne (ne b o e)]; exact e) ⟨by rw [upd_ne (ne _ _ t1)]; exact t1, by rw [upd_ne (ne _ _ t2)]; exact t2⟩ hf0 upd_same
def CallKS (X : Cx) (f : Value) (ks : List Str) (r : St → List V → List V → Hp → VK → Prop) : Prop :=
  ∀ (pins : List (Addr × Obj)) (s : Shared) (σ : St) (H : Hp) (xs zs : List V) (us ws : List Value) (Q : VK), Inv X pins σ H s → Vals xs us → Vals zs ws → r σ xs zs H Q →
    wpAny (model X.prog X.w) X.A (call f us (ks.zip ws)) (EP X pins σ Q) X.xe s
def tKwS (r : St → List V → List V → Hp → VK → Prop) (t tk : TA) : TE := fun σ H Q => t σ H fun vs H1 => tk σ H1 fun zs H2 => r σ vs zs H2 Q
theorem pe_callBS {x : Str} {p pos : Pos} {id : String} {e : Expr} {es : List Expr} {kws : List Keyword} {ks : List Str} {t tk : TA} {r : St → List V → List V → Hp → VK → Prop} (hc : CallKS X (.builtin id) ks r) (hg : Gl X x) (hm : X.mg x = none) (hv : bootBuiltins x = some (.builtin id)) (ha : PA X (e :: es) t) (hkw : PK X kws tk)
    (hks : (backToKw pos (keywordEach kws X.env)).filterMap (·.1) = ks := by rfl) (hn : x ≠ "__name__" := by decide) (hdb : (x == ("__debug__" : Str)) = false := by decide)
    (he : backTo pos (starEach (e :: es) X.env) = (false, eval e X.env) :: backTo pos (starEach es X.env) := by rfl) (hplain : (backTo pos (starEach (e :: es) X.env)).any (·.1) = false := by rfl)
    (hall : (backToKw pos (keywordEach kws X.env)).all (·.1.isSome) = true := by rfl) (hno : (backToKw pos (keywordEach kws X.env)).any (·.1.isNone) = false := by rfl) : PE X (.Call (.Name x p) (e :: es) kws pos) (tKwS r t tk) := by
  intro pins s σ H Q I h
  refine wpAny_Call_Name_kw (ld_blt I hg hm hv ?_ hn hdb)
  refine callWith_builtin_kwB hplain hno ?_
  have sp := ha pos pins s σ H _ I h
  rw [he] at sp ⊢
  refine evalArgs_kwB hall (thn sp fun us s1 ⟨vs, H1, I1, r1, q1⟩ => thn (hkw pos pins s1 σ H1 _ I1 q1) fun ws s2 ⟨zs, H2, I2, r2, q2⟩ => ?_)
  rw [hks]
  exact hc pins s2 σ H2 vs zs us ws Q I2 r1 r2 q2
theorem call_rangeV : CallR X (.type "range") (fun xs H Q => ∃ (lo hi : Int), xs = [.int lo, .int hi] ∧ ∀ a, H a = none → Q (.ref a) (upd H a (.rng lo hi))) := by
  intro pins s σ H xs us Q I r h
  obtain ⟨lo, hi, rfl, q⟩ := h
  obtain ⟨u, v, rfl, ⟨t, rfl⟩, ⟨t', rfl⟩⟩ := Vals.two r
  refine call_range_2 ?_
  exact ⟨.ref _, _, I.laid (t' := s.toks + 1) (a := s.heap.objs.size) (o := .rng lo hi) (fun b o e => Heap.get?_push_of_some _ e) (Nat.le_refl _) ⟨t, t', _, Heap.get?_push_size _ rfl⟩, rfl, q _ (I.hok.fresh (Nat.le_refl _))⟩
theorem lam_key {w : World} {prog : Program} {A : Around} {s : Shared} {f c cw aw : Addr} {q : Str} {ps : Arguments} {sc : Scope} {x y : Str} {p1 p2 p3 p4 p5 : Pos} {k5 : Nat} {pm ctv : Value} {its : List Value} {i : Nat} {t t2 : Tok} {k : Int} {Q : Value → Shared → Prop}
    (hd : A.depth < recursionLimit) (hf : s.heap.get? f = some (PySem.W.kla_obj "<lambda>" q ps (.Subscript (.Name x p1) (.BinOp (.Name y p2) .Sub (.Constant (.int 1) k5 p3) p4) p5) sc [(x, cw)] pm c ctv)) (hc : s.heap.CodeRec (.ref c) q) (hlim : s.heap.NoLimit)
    (hcell : s.heap.IsCell cw (some (.ref aw))) (hl : s.heap.IsList aw its.toArray) (hi : its[i]? = some (.int k t2)) (hsz : i < 2 ^ 60)
    (hb : bindArgs (PySem.W.kla_fn "<lambda>" q ps (.Subscript (.Name x p1) (.BinOp (.Name y p2) .Sub (.Constant (.int 1) k5 p3) p4) p5) sc [(x, cw)] pm (.ref c) ctv) ⟨[.int (1 + i) t], []⟩ = pure [(y, .int (1 + i) t)])
    (s1 : sc.isCoroutine = false) (s2 : sc.isGenerator = false) (s3 : sc.kind = .function) (s4 : ∀ x ∈ sc.names, x.2 ≠ .cell) (s5 : sc.names.lookup y = some .local) (s6 : sc.names.lookup x = some .free)
    (y1 : (y == ("__debug__" : Str)) = false) (x1 : (x == ("__debug__" : Str)) = false) (x2 : (x == ("__classdict__" : Str)) = false)
    (h : ∀ h'' tk' t, (∀ b o, s.heap.get? b = some o → h''.get? b = some o) → Q (.int k t) { s with heap := h'', toks := tk' }) : wpAny (model prog w) A (call (.ref f) [.int (1 + i) t]) Q (fun _ _ => False) s := by
  refine wpAny_call (PySem.W.kla_callFunE hd hf rfl s1 s2 rfl hc ?_)
  rw [hb]
  refine wpAny_pure (wpAny_newFunctionEnv s4 (fun z hz => by rw [List.mem_singleton.mp hz]; exact s5) (fun h₁ hns hsb => ⟨hlim.fresh _ hsb, ?_⟩) s3)
  have hk₁ : ∀ b o, s.heap.get? b = some o → h₁.get? b = some o := fun b o e => hsb.extBut b o (Nat.ne_of_lt (Heap.lt_size e)) (Heap.get?_push_of_some _ e)
  refine PySem.W.kla_codeExpr ?_
  refine Subscript_ (wpAny_Name (wpAny_loadName_free (c := cw) (v := .ref aw) s3 s6 (by show List.lookup x [(x, cw)] = some cw; simp) ?_ ?_ x2) x1)
  · obtain ⟨o, e, d⟩ := hcell
    exact ⟨o, hk₁ _ _ e, d⟩
  refine wpAny_BinOp (wpAny_Name (wpAny_loadName_local (v := .int (1 + i) t) s3 s5 hns (by show List.lookup y [(y, Value.int (1 + i) t)] = _; simp) ?_) y1)
  refine wpAny_Constant_int (sub_int ?_)
  have hl1 : h₁.IsList aw its.toArray := by
    obtain ⟨o, e, r⟩ := hl
    exact ⟨o, hk₁ _ _ e, r⟩
  have ei : (1 + (i : Int)) - 1 = i := by omega
  rw [ei]
  refine item_listR hl1 (by omega) (by omega) (x := .int k t2) (by rw [Int.toNat_natCast]; simpa using hi) ?_ (by with_unfolding_all rfl)
  exact h _ _ _ hk₁
end
end L2
namespace L2
open PySem PySem.Spec PyProof.Rows
section
variable {X : Cx}
abbrev lamB (x y : Str) (p1 p2 p3 p4 p5 : Pos) (k5 : Nat) : Expr := .Subscript (.Name x p1) (.BinOp (.Name y p2) .Sub (.Constant (.int 1) k5 p3) p4) p5
def rSortL (K : PySem.W.Frag) (iw : Nat) (x : Str) (cw : Addr) (q : Str) (ps : Arguments) (b : Expr) (sc : Scope) : St → List V → List V → Hp → VK → Prop := fun σ xs zs H Q =>
  ∃ (rg aw f c : Addr) (ws : List Nat), xs = [.ref rg] ∧ zs = [.ref f] ∧ H rg = some (.rng 1 ((ws.length : Nat) + 1)) ∧ H f = some (LamO f c q ps b sc [(x, cw)]) ∧ H c = some (CodO c q) ∧ σ[iw]? = some (some (.ref aw)) ∧ SqL K H aw (vI ws) ∧ ws.length < 64 ∧
    ∀ (p : Array Nat) (l : Addr), Ks.Pre ws.length p ws.length → Ks.Up (fun i => ((ws.getD i 0 : Nat) : Int)) p ws.length → H l = none → Q (.ref l) (upd H l (.lst (p.toList.map fun (i : Nat) => V.int (1 + (i : Nat)))))
theorem call_sortedL {k : Nat} {iw : Nat} {x y : Str} {cw : Addr} {q : Str} {ps : Arguments} {sc : Scope} {p1 p2 p3 p4 p5 : Pos} {k5 : Nat} (hcm : X.calm = true) (hr : Room k X.A) (hN : X.N[iw]? = some x) (hx : X.env.scope.names.lookup x = some .cell) (hcw : X.env.cells.lookup x = some cw)
    (hb : ∀ pm c ctv v, bindArgs (PySem.W.kla_fn "<lambda>" q ps (lamB x y p1 p2 p3 p4 p5 k5) sc [(x, cw)] pm (.ref c) ctv) ⟨[v], []⟩ = pure [(y, v)])
    (s1 : sc.isCoroutine = false) (s2 : sc.isGenerator = false) (s3 : sc.kind = .function) (s4 : ∀ x ∈ sc.names, x.2 ≠ .cell) (s5 : sc.names.lookup y = some .local) (s6 : sc.names.lookup x = some .free)
    (y1 : (y == ("__debug__" : Str)) = false) (x1 : (x == ("__debug__" : Str)) = false) (x2 : (x == ("__classdict__" : Str)) = false) :
    CallKS X (.builtin "sorted") [Str.ofString "key"] (rSortL X.K iw x cw q ps (lamB x y p1 p2 p3 p4 p5 k5) sc) := by
  intro pins s σ H xs zs us ws' Q I r rz h
  obtain ⟨rg, aw, f, c, ws, rfl, rfl, hrg, hf, hc, hσ, hl, h64, q⟩ := h
  obtain ⟨u, rfl, ru⟩ := vals1 r
  obtain ⟨w', rfl, rw'⟩ := vals1 rz
  cases ru
  cases rw'
  obtain ⟨tr, ur, vr, er⟩ := I.hok _ _ hrg
  obtain ⟨⟨pm, ctv, ef⟩, _⟩ := I.hok _ _ hf
  obtain ⟨ec, _⟩ := I.hok _ _ hc
  obtain ⟨its, r1, p1', hz⟩ := I.list hl
  obtain ⟨m, hn, hloc⟩ := I.loc
  obtain ⟨uu, ru, lk⟩ := hloc iw x (.ref aw) hN hσ (.inr (.inl hx))
  cases ru
  have hcell : s.heap.IsCell cw (some (.ref aw)) := by
    rcases lk with ⟨k1, _⟩ | ⟨_, c1, e1, e2⟩
    · have : X.env.scope.names.lookup x = some .local := k1
      rw [hx] at this
      cases this
    · rw [hcw] at e1
      cases e1
      exact e2
  have hlen : its.length = ws.length := by rw [← r1.length, vI_len]
  refine sorted_keyed (n := ws.length) (kf := fun i => ((ws.getD i 0 : Nat) : Int)) (I.ok.hd hcm) er (small_one (by decide) (by decide) (by omega) (by omega)) (by rw [rangeSize_one]; split <;> omega) h64 (fun i tv h' tk Q' hi kk hq => ?_) fun h' tk p c' l its' kk hsz hl' hv hp hu => ?_
  · obtain ⟨v, ev, tv2, ev2⟩ := r1.get (vI_get (i := i) (w := ws.getD i 0) (by rw [List.getD_eq_getElem?_getD, List.getElem?_eq_getElem hi]; rfl))
    cases ev2
    refine lam_key (i := i) (aw := aw) (A := X.A.in1.in1) (s := { s with heap := h', toks := tk }) (its := its) (t2 := tv2) (by have := hr.dp; show X.A.depth < _; omega) (kk _ _ ef) ?_ (I.nolimit.keeps kk) ?_ ?_ ev (by omega) (hb _ _ _ _) s1 s2 s3 s4 s5 s6 y1 x1 x2 hq
    · obtain ⟨c2, o, vs, t, e, ho, hd, hq⟩ := ec
      exact ⟨c2, o, vs, t, e, kk _ _ ho, hd, hq⟩
    · obtain ⟨o, e, d⟩ := hcell
      exact ⟨o, kk _ _ e, d⟩
    · obtain ⟨o, e, d⟩ := p1'.isList
      exact ⟨o, kk _ _ e, d⟩
  · refine ⟨.ref l, _, I.laid (t' := tk) (a := l) (o := .lst (p.toList.map fun (i : Nat) => V.int (1 + (i : Nat)))) kk hsz ⟨?_, its', c', hv, hl'⟩, rfl, q p l hp hu (I.hok.fresh hsz)⟩
    rw [List.length_map, Array.length_toList, hp.sz, sizeLine_eq]
    omega
end
end L2
namespace L2
open PySem PySem.Spec PyProof.Rows
theorem law_callT {P : Program} {w : World} {K : PySem.W.Frag} {mg mb : Str → Option Value} {CX : CXT} {k : Nat} {fa a pt cc : Addr} {fd : FuncData} {x : Str} {sp : Sp} {s₁ : Shared} {vs : List Value} {ns : List Int}
    (KX : K.In s₁.heap) (hns : s₁.heap.Ns mainGlobals mg) (hb : s₁.heap.Ns builtinsNs mb) (hbb : ∀ x : Str, x ≠ "__name__" → mb x = bootBuiltins x) (hlim : s₁.heap.NoLimit) (hbm : Bm mg s₁.heap) (hg : s₁.gens = #[])
    (hpt : s₁.heap.get? pt = some (PySem.W.tabObj #[])) (hKp : K.lookup pt = none) (hcc : PySem.W.CodeHd s₁.heap cc pt)
    (ha : s₁.heap.get? a = some { cls := .type "list", data := .seq vs.toArray }) (hi : IntsAre vs ns) (hl : ns.length ≤ sizeLine) (hr : Room k callerA)
    (F : ∀ base : Heap, K.In base → base.Ns mainGlobals mg → Bm mg base → FnOk P w K mg base CX k fa fd [x] sp) (hbind : ∀ (s : Shared) (u : Value), BindsTo s fd ⟨[u], []⟩ [(x, u)])
    (hsp : ∀ H : Hp, H pt = some (.tbl #[]) → SqL K H a (ns.map V.int) → sp [.ref a] H (fun v _ => v = .bl true) fun _ _ _ => False)
    (hCX : ∀ H e s', CX [] H s₁ (fun _ _ _ => False) e s' → False) :
    codeAny (model P w) callerA (.call (.ref fa) ⟨[.ref a], []⟩) (fun r s' => r = .ok (.ret (.bool true)) ∧ OldK s₁.heap s'.heap ∧ s'.os = s₁.os ∧ AllBare s'.gens) s₁ := by
  have rv := vals_ints hi
  have lenV := hi.length
  have hap : a ≠ pt := fun z => by rw [z, hpt] at ha; cases ha
  have core : ∀ H : Hp, H pt = some (.tbl #[]) → (∀ b, b ≠ pt → H b = none ∨ ∃ o xs, H b = some (.frz o (.lst xs))) → SqL K H a (ns.map V.int) → HOk P w H s₁.heap → (∀ b, H b ≠ none → b = a ∨ b = pt) → (H a ≠ none → K.lookup a = none) →
      codeAny (model P w) callerA (.call (.ref fa) ⟨[.ref a], []⟩) (fun r s' => r = .ok (.ret (.bool true)) ∧ OldK s₁.heap s'.heap ∧ s'.os = s₁.os ∧ AllBare s'.gens) s₁ := by
    intro H hT hO hS hok hA hK
    have base_of : ∀ {b : Addr} {o : Obj}, s₁.heap.get? b = some o → H b = none → (hidT s₁.heap H).get? b = some o := fun e n => hidT_get e n
    have noA : ∀ {b : Addr} {o : Obj}, s₁.heap.get? b = some o → (∀ xs n, o.data ≠ .seq xs n) → (∀ fs, o.data ≠ .fields fs) → H b = none := fun {b o} e d1 d2 => by
      cases q : H b with
      | none => rfl
      | some u =>
        rcases hA b (by rw [q]; simp) with e' | e'
        · subst e'
          rw [ha] at e; cases e
          exact (d1 _ _ rfl).elim
        · subst e'
          rw [hpt] at e; cases e
          exact (d2 _ rfl).elim
    have nsK : ∀ {b : Addr} {m : Str → Option Value}, s₁.heap.Ns b m → (hidT s₁.heap H).Ns b m := fun {b m} ⟨o, es, ep, e, d, r⟩ => ⟨o, es, ep, base_of e (noA e (fun _ _ z => by rw [d] at z; cases z) (fun _ z => by rw [d] at z; cases z)), d, r⟩
    have hKb : K.In (hidT s₁.heap H) := fun b o e => base_of (KX b o e) (by
      cases q : H b with
      | none => rfl
      | some u =>
        rcases hA b (by rw [q]; simp) with e' | e'
        · subst e'
          rw [hK (by rw [q]; simp)] at e; cases e
        · subst e'
          rw [hKp] at e; cases e)
    have hM : Mod K mg (hidT s₁.heap H) := ⟨hKb, nsK hns, ⟨mb, nsK hb, hbb⟩, let ⟨mc, h1, h2⟩ := hlim; ⟨mc, nsK h1, h2⟩⟩
    have hBm : Bm mg (hidT s₁.heap H) := by
      obtain ⟨bm, ob, b1, b2, b3, b4, b5, b6⟩ := hbm
      exact ⟨bm, ob, b1, b2, base_of b3 (noA b3 (fun _ _ z => by rw [b6] at z; cases z) (fun _ z => by rw [b6] at z; cases z)), b4, b5, b6⟩
    have e0 : Env0 P w K mg (hidT s₁.heap H) callerA [] s₁ H := ⟨rfl, hM, fun b o e => of_hidT e, Nat.le_of_eq (hidT_size _ _), trivial, fun b hb => absurd (show b ∈ ([] : List Addr) from hb) (by simp), hok, .of_eq hg⟩
    refine codeAny_mono ((F _ hKb (nsK hns) hBm).run callerA [] s₁ H ⟨[.ref a], []⟩ [.ref a] [.ref a] _ _ hr e0 (hbind s₁ (.ref a)) (.cons rfl .nil) (hsp H hT hS)) fun r s' h => ?_
    cases r with
    | error e => exact (hCX H e s' h).elim
    | ok fl =>
      cases fl with
      | next => exact False.elim h
      | brk => exact False.elim h
      | cont => exact False.elim h
      | ret u =>
        obtain ⟨v, H', os, bare, un, hok', r', q⟩ := h
        have q' : v = .bl true := q
        subst q'
        obtain rfl : u = Value.bool true := r'
        have old : ∀ b o, b ≠ pt → s₁.heap.get? b = some o → s'.heap.get? b = some o := fun b o nb e => by
          cases q : H b with
          | none => exact un.keep b o e q (by intro z; exact absurd (show b ∈ ([] : List Addr) from z) (by simp)) (by simp)
          | some u =>
            rcases hO b nb with z | ⟨ob, xs, z⟩
            · rw [q] at z; cases z
            · have z2 := un.frzs b ob _ z
              obtain ⟨e1, _⟩ := hok b _ z
              obtain ⟨e2, _⟩ := hok' b _ z2
              rw [e] at e1; cases e1
              exact e2
        obtain ⟨more, hm⟩ := un.tbls pt _ hT
        have hp' : s'.heap.get? pt = some { cls := .none, data := .fields (#[] ++ more) } := hok' pt _ hm
        refine ⟨rfl, ⟨fun b o e => ?_, fun b o e => ?_⟩, os, bare⟩
        · by_cases c : b = pt
          · subst c
            rw [hpt] at e
            cases e
            obtain ⟨o, vs', _, _, _, _, _, _, _, f1, f2, f3, f4, _⟩ := hcc
            exact .inr (.inl ⟨⟨cc, o, vs', f1, f2, f3, f4⟩, rfl, #[], more, rfl, hp'⟩)
          · exact .inl (old b o c e)
        · by_cases c : b = pt
          · subst c; exact ⟨_, hp'⟩
          · exact ⟨o, old b o c e⟩
  cases hk : K.lookup a with
  | some o =>
    have e := KX a o hk
    rw [ha] at e
    cases e
    refine core (fun b => if b = pt then some (.tbl #[]) else none) (if_pos rfl) (fun b nb => .inl (if_neg nb)) (.inr ⟨_, vs.toArray, _, hk, rfl, rfl, rfl, by rw [List.size_toArray, lenV]; exact hl, by simpa using rv⟩) (fun b u z => ?_) (fun b z => ?_) fun z => absurd (if_neg hap) z
    · by_cases c : b = pt
      · have z' := (if_pos c).symm.trans z
        cases z'
        subst c
        exact hpt
      · have z' := (if_neg c).symm.trans z
        cases z'
    · by_cases c : b = pt
      · exact .inr c
      · exact absurd (if_neg c) z
  | none =>
    refine core (fun b => if b = pt then some (.tbl #[]) else if b = a then some (.frz { cls := .type "list", data := .seq vs.toArray } (.lst (ns.map V.int))) else none) (if_pos rfl) (fun b nb => ?_) (.inl (.inr ⟨{ cls := .type "list", data := .seq vs.toArray }, (if_neg hap).trans (if_pos rfl)⟩)) (fun b u z => ?_) (fun b z => ?_) fun _ => hk
    · by_cases hb : b = a
      · exact .inr ⟨_, _, (if_neg nb).trans (if_pos hb)⟩
      · exact .inl ((if_neg nb).trans (if_neg hb))
    · by_cases c : b = pt
      · have z' := (if_pos c).symm.trans z
        cases z'
        subst c
        exact hpt
      · have z := (if_neg c).symm.trans z
        by_cases hb : b = a
        · have z' := (if_pos hb).symm.trans z
          cases z'
          subst hb
          exact ⟨ha, by rw [List.length_map]; exact hl, vs, _, rv, ha⟩
        · have z' := (if_neg hb).symm.trans z
          cases z'
    · by_cases c : b = pt
      · exact .inr c
      · by_cases hb : b = a
        · exact .inl hb
        · exact absurd ((if_neg c).trans (if_neg hb)) z
theorem km_three {K : Params → PySem.W.Frag} {as : List Addr} {e : ∀ P, as = (K P).map (·.1)} {ts : List Addr} {w : World} {h : Heap} {pt : Addr} (hp : pt ∈ ts) (hn : pt ∉ as) (Y : (PySem.W.kmHook K as e ts).says w h) :
    (K w.params).In h ∧ h.get? pt = some (PySem.W.tabObj #[]) ∧ (K w.params).lookup pt = none := by
  refine ⟨PySem.W.km_in_of Y, PySem.W.km_tabs_of Y pt hp, ?_⟩
  have hn' : pt ∉ (K w.params).map (·.1) := by rw [← e]; exact hn
  clear Y hn
  generalize K w.params = l at hn'
  induction l with
  | nil => rfl
  | cons q r ih =>
    rw [List.map_cons, List.mem_cons, not_or] at hn'
    obtain ⟨a, o⟩ := q
    show List.lookup pt ((a, o) :: r) = none
    rw [List.lookup_cons]
    have : (pt == a) = false := by
      rw [beq_eq_false_iff_ne]
      exact hn'.1
    rw [this]
    exact ih hn'.2
theorem walk_ofT {l : PySem.W.OpenLaw} {n k : Nat} {q : Program} {loose : List Str} {XP : (Str → Option Value) → Heap → Prop} {YP : World → Heap → Prop} {d : DefRec} {K : Params → PySem.W.Frag} {CX : World → CXT} {sp : World → Sp} {x : Str} {pt : Addr}
    (hn : l.most = some n) (hn2 : n ≤ sizeLine) (hdf : d.params.defaults = []) (hr : Room k callerA)
    (hY : ∀ (w : World) (h : Heap), YP w h → (K w.params).In h ∧ h.get? pt = some (PySem.W.tabObj #[]) ∧ (K w.params).lookup pt = none)
    (F : ∀ (w : World) (mg : Str → Option Value) (fa : Addr) (h : Heap), (K w.params).In h → h.Ns mainGlobals mg → mg d.name = some (.ref fa) →
      ∃ fd : FuncData, (∀ (s : Shared) (u : Value), BindsTo s fd ⟨[u], []⟩ [(x, u)]) ∧ (∃ cc, PySem.W.codeHdIn (K w.params) cc pt = true) ∧
        ∀ base : Heap, (K w.params).In base → base.Ns mainGlobals mg → Bm mg base → FnOk l.prog w (K w.params) mg base (CX w) k fa fd [x] (sp w))
    (hsp : ∀ (w : World) (H : Hp) (a : Addr) (ns : List Int), ns.length ≤ n → H pt = some (.tbl #[]) → SqL (K w.params) H a (ns.map V.int) → sp w [.ref a] H (fun v _ => v = .bl true) fun _ _ _ => False)
    (hCX : ∀ (w : World) (H : Hp) (s : Shared) (e : Value) (s' : Shared), CX w [] H s (fun _ _ _ => False) e s' → False) :
    PySem.W.WalkO q loose XP YP l.row.toRowW d [] (fun f vs => PySem.call f vs) := by
  refine Att.attach_call hn hdf fun w s₀ s₁ mg mb fa o pm cd doc a vs ns G Y ho hd hcd hmg hobj hints hlen hg => ?_
  obtain ⟨KX, hpt, hKp⟩ := hY w _ Y
  obtain ⟨fd, hb, ⟨cc, hcc⟩, hF⟩ := F w mg fa _ KX G.T.g hmg
  exact law_callT KX G.T.g G.T.b G.T.builtins G.T.nolimit G.T.bmain hg hpt hKp (PySem.W.codeHd_of_K KX hcc) hobj hints (Nat.le_trans hlen hn2) hr hF hb (fun H hO hS => hsp w H a ns hlen hO hS) fun H e s' => hCX w H s₁ e s'
section
variable {P : Program} {w : World} {K : PySem.W.Frag} {mg : Str → Option Value} {base : Heap}
structure SrcL (K : PySem.W.Frag) (mg : Str → Option Value) (x : Str) (st : Stmt) (ps : List Str) (pt : Addr) : Prop where
  ex : ∃ (f cc : Addr) (oc : Value) (od : Option Addr) (kV doc pm : Value) (an : Option Addr) (ct : Value) (osl : Array (Option Value)), mg x = some (.ref f) ∧
    K.lookup f = some ⟨oc, od, .func (PySem.W.fnOf x x (defArgs st) (defBody st) (defScope st) .none kV doc pm an (.ref cc) ct), osl⟩ ∧ PySem.W.codeIn K (.ref cc) x = true ∧ PySem.W.keepIn K (.ref f) = true ∧ PySem.W.codeHdIn K cc pt = true ∧
    Binds K (PySem.W.fnOf x x (defArgs st) (defBody st) (defScope st) .none kV doc pm an (.ref cc) ct) ps []
theorem SrcL.okX {x : Str} {st : Stmt} {N ps : List Str} {k : Nat} {sp : Sp} {pt : Addr} (S : SrcL K mg x st ps pt) (sc : FnScope N ps (defScope st)) (len : ∀ vs H Q E, sp vs H Q E → vs.length = ps.length)
    (hbody : ∀ (f cc : Addr) (A : Around) (outer : List Env) (s : Shared) (H : Hp) (vs : List V) (Q : VK) (E : XK), PySem.W.codeHdIn K cc pt = true → Room k (A.deeper (envOfC x (defScope st) s.heap.objs.size f (.ref cc))) → sp vs H Q E →
      ∃ t, PSs (cxOf (CX1 P w) P w K mg base N x (defScope st) f (.ref cc) A outer s H E) (defBody st) t ∧ t { nx := fun _ H' => Q .non H', rt := Q } (start N vs) H) : DefX P w K mg base (k + 1) x ps sp := by
  obtain ⟨f, cc, oc, od, kV, doc, pm, an, ct, osl, h1, lk, hcd, kp, hck, hb⟩ := S.ex
  exact ⟨f, _, h1, kp, hb, fn_of lk hcd sc len fun A outer s H vs Q E hr hsp => hbody f cc A outer s H vs Q E hck hr hsp⟩
end
end L2
namespace L2
open PySem PySem.Spec PyProof.Rows
def CNa (n : Nat) (Sg : Nat → List V → St → Hp → Prop) (i : Nat) (acc : List V) (σ : St) (H : Hp) : Prop := ∃ m, m < n - i ∧ m = n - (i + 1) ∧ i + 1 ≤ n ∧ Sg (i + 1) acc σ H
theorem cna {n : Nat} {Sg : Nat → List V → St → Hp → Prop} {i : Nat} {acc : List V} {σ : St} {H : Hp} (h : i < n) (q : Sg (i + 1) acc σ H) : CNa n Sg i acc σ H := ⟨n - (i + 1), by omega, rfl, h, q⟩
theorem comp_rangeA {g : TG} {tc : TT} {te : TE} {σ0 : St} {H0 : Hp} {Q : VK} {n : Nat} {lo : Int} (Sg : Nat → List V → St → Hp → Prop) (hz : n ≤ sizeLine) (hG : ∀ i acc σ H, i ≤ n → Sg i acc σ H → acc.length ≤ i) (s0 : Sg 0 [] σ0 H0)
    (hs : ∀ i acc σ H, i < n → Sg i acc σ H → g (.int (lo + i)) σ H fun σ2 H2 => tc σ2 H2 fun b H3 => if b = true then te σ2 H3 fun y H4 => CNa n Sg i (acc ++ [y]) σ2 H4 else CNa n Sg i acc σ2 H3)
    (fin : ∀ acc σ H p, Sg n acc σ H → H p = none → Q (.ref p) (upd H p (.lst acc))) : tCompW g tc te (Itr lo n) σ0 H0 Q := by
  refine ⟨fun i m acc σ H' => m = n - i ∧ i ≤ n ∧ Sg i acc σ H', ⟨n, by simp, Nat.zero_le _, s0⟩, ?_⟩
  rintro i m acc σ H ⟨rfl, hi, hS⟩
  by_cases hlt : i < n
  · refine .inr ⟨hlt, by have := hG i acc σ H hi hS; omega, fun x H1 y => ?_⟩
    obtain ⟨e, y⟩ := y
    subst e y
    exact hs i acc σ _ hlt hS
  · have e : i = n := by omega
    subst e
    exact .inl ⟨Nat.le_refl _, fun p hp => fin acc σ H p hS hp⟩
end L2
namespace L2
open PySem PySem.Spec PyProof.Rows
section
variable {X : Cx}
end
end L2
namespace L2
open PySem PySem.Spec PyProof.Rows
section
variable {X : Cx}
theorem vbl_get {ns : List Bool} {its : List Value} (r : Vals (ns.map V.bl) its) {j : Nat} (h : j < its.length) : ∃ (hj : j < ns.length), RelV (.bl ns[j]) its[j] := by
  have l := r.length
  rw [List.length_map] at l
  have hj : j < ns.length := by omega
  obtain ⟨u, e, ru⟩ := r.get (i := j) (x := .bl ns[j]) (by rw [List.getElem?_map, List.getElem?_eq_getElem hj]; rfl)
  rw [List.getElem?_eq_getElem h] at e
  cases e
  exact ⟨hj, ru⟩
theorem all_sameB {ns ms : List Bool} (h : ns.length = ms.length) : ((List.range ns.length).all fun j => decide (ns[j]? = ms[j]?)) = decide (ns = ms) := by
  by_cases e : ns = ms
  · subst e
    rw [decide_eq_true rfl]
    exact List.all_eq_true.mpr fun j _ => decide_eq_true rfl
  · rw [decide_eq_false e]
    refine List.all_eq_false.mpr ?_
    refine Classical.byContradiction fun no => e (List.ext_getElem? fun j => ?_)
    by_cases hj : j < ns.length
    · refine Classical.byContradiction fun z => no ⟨j, List.mem_range.mpr hj, ?_⟩
      rw [decide_eq_false z]
      exact Bool.false_ne_true
    · rw [List.getElem?_eq_none (by omega), List.getElem?_eq_none (by omega)]
theorem eqAt_bls {A : Around} {s : Shared} {ns ms : List Bool} {its its2 : List Value} (r1 : Vals (ns.map V.bl) its) (r2 : Vals (ms.map V.bl) its2) (j : Nat) (h1 : j < its.toArray.size) (h2 : j < its2.toArray.size) :
    SeqAt.EqAt A s its.toArray[j] its2.toArray[j] (decide (ns[j]? = ms[j]?)) := by
  obtain ⟨hj, e1⟩ := vbl_get r1 (j := j) (by simpa using h1)
  obtain ⟨hj2, e2⟩ := vbl_get r2 (j := j) (by simpa using h2)
  have q := eqAt_V (A := A) (s := s) e1 e2 rfl rfl
  have e : eqV (.bl ns[j]) (.bl ms[j]) = decide (ns[j]? = ms[j]?) := by
    rw [List.getElem?_eq_getElem hj, List.getElem?_eq_getElem hj2]
    cases ns[j] <;> cases ms[j] <;> rfl
  rw [e] at q
  simpa using q
def rNeB (K : PySem.W.Frag) : R2 := fun x y H Q => ∃ (a b : Addr) (ns ms : List Bool), x = .ref a ∧ y = .ref b ∧ SqL K H a (ns.map V.bl) ∧ SqL K H b (ms.map V.bl) ∧ ns.length = ms.length ∧ Q (.bl (!decide (ns = ms))) H
theorem op_neB (hu : X.A.units < cLine) : OpR X (compareOp .NotEq) (rNeB X.K) := by
  intro pins s σ H x y v u Q I rx ry h
  obtain ⟨a, b, ns, ms, rfl, rfl, h1, h2, hl, q⟩ := h
  cases rx
  cases ry
  obtain ⟨its, r1, p1, _⟩ := I.list h1
  obtain ⟨its2, r2, p2, _⟩ := I.list h2
  have l1 := r1.length
  have l2 := r2.length
  rw [List.length_map] at l1 l2
  refine (SeqAt.RcNeAt.lists p1.isList p2.isList (by simp only [List.size_toArray]; omega) hu (eqAt_bls r1 r2)) X.prog X.w X.xe _ ?_
  rw [List.size_toArray, ← l1, all_sameB hl]
  exact ⟨.bl (!decide (ns = ms)), H, I, rfl, q⟩
end
end L2
namespace L2
open PySem PySem.Spec PyProof.Rows
structure QE (X : Cx) (e : Expr) (t : TE) : Prop where
  get : PE X e t
structure QA (X : Cx) (es : List Expr) (t : TA) : Prop where
  get : PA X es t
section
variable {X : Cx} {es : List Expr} {te : TE} {t : TA}
theorem gE {e : Expr} (h : QE X e te) : PE X e te := h.get
theorem qI {i : Int} {j : Nat} {p : Pos} : QE X (.Constant (.int i) j p) (tC (.int i)) := ⟨pe_int⟩
theorem qS {x : Str} {j : Nat} {p : Pos} : QE X (.Constant (.str x) j p) (tC (.str x)) := ⟨pe_str⟩
theorem qO {j : Nat} {p : Pos} : QE X (.Constant .none j p) (tC .non) := ⟨pe_non⟩
theorem qY {b : Bool} {j : Nat} {p : Pos} : QE X (.Constant (.bool b) j p) (tC (.bl b)) := ⟨pe_bl⟩
theorem q0 : QA X [] tNil := ⟨pa_nil⟩
theorem qaC {c : Const} {j : Nat} {p : Pos} (ha : QE X (.Constant c j p) te) (hr : QA X es t) : QA X (.Constant c j p :: es) (tCons te t) := ⟨pa_cons ha.get hr.get rfl⟩
theorem qaN {x : Str} {p : Pos} (ha : QE X (.Name x p) te) (hr : QA X es t) : QA X (.Name x p :: es) (tCons te t) := ⟨pa_cons ha.get hr.get rfl⟩
theorem qaL {l : List Expr} {p : Pos} (ha : QE X (.List l p) te) (hr : QA X es t) : QA X (.List l p :: es) (tCons te t) := ⟨pa_cons ha.get hr.get rfl⟩
theorem qaB {a b : Expr} {o : Operator} {p : Pos} (ha : QE X (.BinOp a o b p) te) (hr : QA X es t) : QA X (.BinOp a o b p :: es) (tCons te t) := ⟨pa_cons ha.get hr.get rfl⟩
theorem qaS {a b : Expr} {p : Pos} (ha : QE X (.Subscript a b p) te) (hr : QA X es t) : QA X (.Subscript a b p :: es) (tCons te t) := ⟨pa_cons ha.get hr.get rfl⟩
theorem qaF {a : Expr} {l : List Expr} {k : List Keyword} {p : Pos} (ha : QE X (.Call a l k p) te) (hr : QA X es t) : QA X (.Call a l k p :: es) (tCons te t) := ⟨pa_cons ha.get hr.get rfl⟩
theorem qaR {a : Expr} {l : List CmpOp} {k : List Expr} {p : Pos} (ha : QE X (.Compare a l k p) te) (hr : QA X es t) : QA X (.Compare a l k p :: es) (tCons te t) := ⟨pa_cons ha.get hr.get rfl⟩
theorem qaLC {e : Expr} {l : List Comprehension} {sc : Scope} {p : Pos} (ha : QE X (.ListComp e l sc p) te) (hr : QA X es t) : QA X (.ListComp e l sc p :: es) (tCons te t) := ⟨pa_cons ha.get hr.get rfl⟩
theorem qaI {c a b : Expr} {p : Pos} (ha : QE X (.IfExp c a b p) te) (hr : QA X es t) : QA X (.IfExp c a b p :: es) (tCons te t) := ⟨pa_cons ha.get hr.get rfl⟩
theorem qIfE {c a b : Expr} {p : Pos} {tc : TT} {ta tb : TE} (hc : PT X c tc) (ha : QE X a ta) (hb : QE X b tb) : QE X (.IfExp c a b p) (tIf tc ta tb) := ⟨pe_ifExp hc ha.get hb.get⟩
theorem qL {p : Pos} (h : QA X es t) : QE X (.List es p) (tLst t) := ⟨pe_lst h.get⟩
theorem qaT1 {i : Int} {j1 j : Nat} {p1 p : Pos} (hr : QA X es t) : QA X (.Tuple [.Constant (.int i) j1 p1] j p :: es) (tCons (tTup (tCons (tC (.int i)) tNil)) t) := ⟨pa_cons (pe_tup (pa_cons pe_int pa_nil)) hr.get rfl⟩
theorem qaT2 {i k : Int} {j1 j2 j : Nat} {p1 p2 p : Pos} (hr : QA X es t) : QA X (.Tuple [.Constant (.int i) j1 p1, .Constant (.int k) j2 p2] j p :: es) (tCons (tTup (tCons (tC (.int i)) (tCons (tC (.int k)) tNil))) t) := ⟨pa_cons (pe_tup (pa_cons pe_int (pa_cons pe_int pa_nil))) hr.get rfl⟩
theorem qOp {a b : Expr} {o : Operator} {p : Pos} {ta tb : TE} {r : R2} (ho : OpR X (binaryOp o) r) (ha : QE X a ta) (hb : QE X b tb) : QE X (.BinOp a o b p) (tOp r ta tb) := ⟨pe_op ho ha.get hb.get⟩
theorem qIx {a b : Expr} {p : Pos} {ta tb : TE} {r : R2} (hr : IxR X r) (ha : QE X a ta) (hb : QE X b tb) (hs : PlainIx b) : QE X (.Subscript a b p) (tOp r ta tb) := ⟨pe_ix hr ha.get hb.get hs⟩
theorem qX {k : Nat} {x : Str} {ps : List Str} {sp : Sp} {E : XK} {p pos : Pos} {e : Expr} {es : List Expr} {t : TA} (D : DefX X.prog X.w X.K X.mg X.base k x ps sp) (hr : Room k X.A) (hg : Gl X x) (hx : Passes (CX1 X.prog X.w) X E) (ha : QA X (e :: es) t)
    (hdb : (x == ("__debug__" : Str)) = false) (he : starEach (e :: es) X.env = (false, eval e X.env) :: starEach es X.env) (hpl : (backTo pos (starEach es X.env)).any (·.1) = false) : QE X (.Call (.Name x p) (e :: es) [] pos) (tCall sp [] E t) := ⟨pe_callX D hr hg hx ha.get hdb he hpl⟩
theorem qV {k : Nat} {E : XK} {a b : Expr} {p1 pos : Pos} {e : Expr} {es : List Expr} {tf : TE} {t : TA} (hf : QE X (.Subscript a b p1) tf) (hr : Room k X.A) (hx : Passes (CX1 X.prog X.w) X E) (ha : QA X (e :: es) t)
    (he : starEach (e :: es) X.env = (false, eval e X.env) :: starEach es X.env) (hpl : (backTo pos (starEach es X.env)).any (·.1) = false) : QE X (.Call (.Subscript a b p1) (e :: es) [] pos) (tCallV X.prog X.w X.K X.mg X.base k E tf t) := ⟨pe_callS hf.get hr hx ha.get he hpl⟩
end
structure QS (X : Cx) (st : Stmt) (t : TS) : Prop where
  get : PS X st t
structure QSs (X : Cx) (sts : List Stmt) (t : TS) : Prop where
  get : PSs X sts t
section
variable {X : Cx} {st : Stmt} {rest : List Stmt} {t u : TS} {e : Expr} {te : TE} {pos : Pos}
theorem gSs {sts : List Stmt} (h : QSs X sts t) : PSs X sts t := h.get
theorem qCons (h1 : QS X st t) (h2 : QSs X rest u) : QSs X (st :: rest) (tSeq t u) := ⟨pss_cons h1.get h2.get⟩
theorem qOne (h1 : QS X st t) : QSs X [st] t := ⟨pss_one h1.get⟩
theorem qNil : QSs X [] (fun D σ H => D.nx σ H) := ⟨pss_nil⟩
theorem qIf {c : Expr} {a b : List Stmt} {tc : TT} (hc : PT X c tc) (ha : QSs X a t) (hb : QSs X b u) : QS X (.If c a b pos) (tIfS tc t u) := ⟨ps_if hc ha.get hb.get⟩
theorem qRet (he : QE X e te) : QS X (.Return (some e) pos) (tRet te) := ⟨ps_ret he.get⟩
theorem qDrop (he : QE X e te) (hs : swapsWith e none pos.line X.env = pure false) : QS X (.Expr e pos) (tDrop te) := ⟨ps_expr he.get hs⟩
theorem qSet {i : Nat} {x : Str} {pos' : Pos} (hN : X.N.Nodup) (hi : X.N[i]? = some x) (hx : Loc X.env.scope x) (he : QE X e te) (hs : swapsWith e (some (.Name x pos')) pos.line X.env = pure false) (hf : X.fn x = true ∨ X.env.scope.names.lookup x = some .local) :
    QS X (.Assign [.Name x pos'] e pos) (tAsg te (gName i)) := ⟨ps_set hN hi hx he.get hs hf⟩
end
end L2
namespace Pr
def top (i : Nat) : PySem.Stmt := PySem.Challenge.pw_parkrow_k12_refused.main.body.getD i (.Pass ⟨0, 0, 0, 0⟩)
abbrev sIsNum : PySem.Stmt := top 10
abbrev sEachB : PySem.Stmt := top 11
abbrev sListB : PySem.Stmt := top 12
abbrev sIsStreet : PySem.Stmt := top 13
abbrev sChkStreet : PySem.Stmt := top 14
abbrev sByCars : PySem.Stmt := top 15
abbrev sCrowdPl : PySem.Stmt := top 16
abbrev sChkFull : PySem.Stmt := top 17
abbrev sFree : PySem.Stmt := top 22
abbrev sStands : PySem.Stmt := top 23
abbrev sParked : PySem.Stmt := top 24
abbrev sTaken : PySem.Stmt := top 25
abbrev sOff : PySem.Stmt := top 26
abbrev sLucky : PySem.Stmt := top 27
abbrev sDrives : PySem.Stmt := top 28
abbrev sPath : PySem.Stmt := top 30
abbrev sHeights : PySem.Stmt := top 31
abbrev sBeneath : PySem.Stmt := top 32
abbrev sRising : PySem.Stmt := top 33
abbrev sAround : PySem.Stmt := top 35
abbrev sRing : PySem.Stmt := top 36
abbrev sTurning : PySem.Stmt := top 37
abbrev sTurned : PySem.Stmt := top 38
abbrev sChkSt : PySem.Stmt := top 40
abbrev sReaches : PySem.Stmt := top 41
abbrev sProduct : PySem.Stmt := top 42
abbrev sHowMany : PySem.Stmt := top 43
abbrev sChkSteps : PySem.Stmt := top 44
abbrev sFromSteps : PySem.Stmt := top 45
abbrev sWritten : PySem.Stmt := top 47
abbrev sTree : PySem.Stmt := top 49
abbrev sKids : PySem.Stmt := top 50
abbrev sServed : PySem.Stmt := top 51
abbrev sTurnsOf : PySem.Stmt := top 52
abbrev sWishesOf : PySem.Stmt := top 53
abbrev sStreetL : PySem.Stmt := top 55
abbrev sAskW : PySem.Stmt := top 56
abbrev sAskM : PySem.Stmt := top 57
abbrev sAskO : PySem.Stmt := top 58
abbrev sTold : PySem.Stmt := top 59
abbrev sLaw : PySem.Stmt := top 60
abbrev sInitP : PySem.Stmt := L2.inClass (top 20) 0
abbrev sInitC : PySem.Stmt := L2.inClass (top 21) 0
abbrev lamL : Nat := 191
end Pr
namespace Pr
open PySem L2
structure Bt (K : PySem.W.Frag) (mg : Str → Option Value) : Prop where
  isi : mg "isinstance" = none
  int : mg "int" = none
  bool : mg "bool" = none
  list : mg "list" = none
  enum : mg "enumerate" = none
  sorted : mg "sorted" = none
  range : mg "range" = none
  all : mg "all" = none
  any : mg "any" = none
  sum : mg "sum" = none
  max : mg "max" = none
  len : mg "len" = none
  ib : PySem.W.kitOne K (.type "int") (.type "bool") = some false
theorem b_isi : bootBuiltins "isinstance" = some (.builtin "isinstance") := by decide +kernel
theorem b_int : bootBuiltins "int" = some (.type "int") := by decide +kernel
theorem b_bool : bootBuiltins "bool" = some (.type "bool") := by decide +kernel
theorem b_list : bootBuiltins "list" = some (.type "list") := by decide +kernel
theorem b_sorted : bootBuiltins "sorted" = some (.builtin "sorted") := by decide +kernel
theorem b_sum : bootBuiltins "sum" = some (.builtin "sum") := by decide +kernel
theorem b_len : bootBuiltins "len" = some (.builtin "len") := by decide +kernel
theorem kit_same (K : PySem.W.Frag) (n : String) : PySem.W.kitOne K (.type n) (.type n) = some true := by
  unfold PySem.W.kitOne
  rw [if_pos (by simp)]
theorem iteFd {c A B : Prop} [Decidable c] (h : ¬ c) (b : B) : if decide c = true then A else B := by
  rw [decide_eq_false h]
  exact iteF b
theorem iteTd {c A B : Prop} [Decidable c] (h : c) (a : A) : if decide c = true then A else B := by
  rw [decide_eq_true h]
  exact iteT a
theorem ite2d {c A B : Prop} [Decidable c] (a : c → A) (b : ¬ c → B) : if decide c = true then A else B := by
  by_cases h : c
  · exact iteTd h (a h)
  · exact iteFd h (b h)
theorem upd_none {H : Hp} {a l : Addr} {o : HO} (h : upd H a o l = none) : l ≠ a ∧ H l = none := by
  by_cases c : l = a
  · subst c
    rw [upd_same] at h
    cases h
  · rw [upd_ne c] at h
    exact ⟨c, h⟩
section
variable {P : Program} {w : World} {K : PySem.W.Frag} {mg : Str → Option Value} {base : Heap}
def numV : V → Bool
  | .int _ => true
  | _ => false
inductive Any (K : PySem.W.Frag) (H : Hp) : V → Prop where
  | non : Any K H .non
  | bl (b : Bool) : Any K H (.bl b)
  | int (i : Int) : Any K H (.int i)
  | str (x : Str) : Any K H (.str x)
  | lst {a : Addr} {xs : List V} (e : H a = some (.lst xs)) : Any K H (.ref a)
  | tup {a : Addr} {xs : List V} (e : H a = some (.tup xs)) : Any K H (.ref a)
theorem kit_b {K : PySem.W.Frag} {n m : String} {b : Bool} (h1 : PySem.W.kitMeta m = true) (h2 : (PySem.fastBuiltinMro n).map (·.contains (.type m)) = some b) (h3 : (Value.type n == Value.type m) = false) : PySem.W.kitOne K (.type n) (.type m) = some b := by
  unfold PySem.W.kitOne
  rw [if_neg (by rw [h3]; exact Bool.false_ne_true)]
  show (if PySem.W.kitMeta m = true then PySem.W.subIn K (.type n) (.type m) else none) = some b
  rw [if_pos h1]
  exact h2
theorem Any.num {K : PySem.W.Frag} {H : Hp} {v : V} (h : Any K H v) : ∃ t b, TyOf K H v t ∧ PySem.W.kitOne K t (.type "int") = some b ∧ (b = false → numV v = false) ∧ (b = true → ∃ c, PySem.W.kitOne K t (.type "bool") = some c ∧ numV v = !c) := by
  cases h with
  | non => exact ⟨_, false, .non, kit_b (by decide +kernel) (by decide +kernel) (by rfl), fun _ => rfl, fun z => by cases z⟩
  | bl b => exact ⟨_, true, .bl b, kit_b (by decide +kernel) (by decide +kernel) (by rfl), (fun z => by cases z), fun _ => ⟨true, kit_same _ _, rfl⟩⟩
  | int i => exact ⟨_, true, .int i, kit_same _ _, (fun z => by cases z), fun _ => ⟨false, kit_b (by decide +kernel) (by decide +kernel) (by rfl), rfl⟩⟩
  | str x => exact ⟨_, false, .str x, kit_b (by decide +kernel) (by decide +kernel) (by rfl), fun _ => rfl, fun z => by cases z⟩
  | lst e => exact ⟨_, false, .lst e, kit_b (by decide +kernel) (by decide +kernel) (by rfl), fun _ => rfl, fun z => by cases z⟩
  | tup e => exact ⟨_, false, .tup e, kit_b (by decide +kernel) (by decide +kernel) (by rfl), fun _ => rfl, fun z => by cases z⟩
theorem Any.isL {K : PySem.W.Frag} {H : Hp} {v : V} (h : Any K H v) : ∃ t b, TyOf K H v t ∧ PySem.W.kitOne K t (.type "list") = some b ∧ (b = true → ∃ a xs, v = .ref a ∧ H a = some (.lst xs)) ∧ (b = false → ∀ a xs, v = .ref a → H a ≠ some (.lst xs)) := by
  cases h with
  | non => exact ⟨_, false, .non, kit_b (by decide +kernel) (by decide +kernel) (by rfl), (fun z => by cases z), fun _ _ _ z => by cases z⟩
  | bl b => exact ⟨_, false, .bl b, kit_b (by decide +kernel) (by decide +kernel) (by rfl), (fun z => by cases z), fun _ _ _ z => by cases z⟩
  | int i => exact ⟨_, false, .int i, kit_b (by decide +kernel) (by decide +kernel) (by rfl), (fun z => by cases z), fun _ _ _ z => by cases z⟩
  | str x => exact ⟨_, false, .str x, kit_b (by decide +kernel) (by decide +kernel) (by rfl), (fun z => by cases z), fun _ _ _ z => by cases z⟩
  | lst e => exact ⟨_, true, .lst e, kit_same _ _, fun _ => ⟨_, _, rfl, e⟩, fun z => by cases z⟩
  | tup e => exact ⟨_, false, .tup e, kit_b (by decide +kernel) (by decide +kernel) (by rfl), (fun z => by cases z), fun _ a xs z w => by cases z; rw [e] at w; cases w⟩
theorem anyI (K : PySem.W.Frag) (H : Hp) (ns : List Int) : ∀ x ∈ ns.map V.int, Any K H x := fun x hx => by
  obtain ⟨n, _, rfl⟩ := List.mem_map.mp hx
  exact .int n
theorem Def.less {P : Program} {w : World} {K : PySem.W.Frag} {mg : Str → Option Value} {base : Heap} {k : Nat} {x : Str} {ps : List Str} {sp sp' : Sp} (D : Def P w K mg base k x ps sp) (h : ∀ vs H Q E, sp' vs H Q E → sp vs H Q E) : Def P w K mg base k x ps sp' := by
  obtain ⟨f, fd, h1, h2, h3, F⟩ := D.ex
  exact ⟨f, fd, h1, h2, h3, ⟨fun vs H Q E q => F.len vs H Q E (h vs H Q E q), fun A outer s H args us vs Q E hr e0 hb r q => F.run A outer s H args us vs Q E hr e0 hb r (h vs H Q E q)⟩⟩
def spIsNumG (K : PySem.W.Frag) : Sp := fun vs H Q _ => ∃ v, vs = [v] ∧ Any K H v ∧ Q (.bl (numV v)) H
def spIsNum : Sp := fun vs H Q _ => ∃ i : Int, vs = [.int i] ∧ Q (.bl true) H
theorem scIsNum : FnScope ["thing"] ["thing"] (defScope sIsNum) := ⟨rfl, rfl, rfl, by decide +kernel, rfl, by decide +kernel, by decide +kernel⟩
theorem d_isnumG (S : Src K mg "is_number" sIsNum ["thing"]) (B : Bt K mg) : Def P w K mg base 1 "is_number" ["thing"] (spIsNumG K) := by
  refine S.ok scIsNum (fun vs H Q E h => ?_) (fun f cdv A outer s H vs Q E hr h => ?_)
  · obtain ⟨v, rfl, _⟩ := h
    rfl
  · obtain ⟨v, rfl, hv, k⟩ := h
    obtain ⟨t, b, ty, e1, e2, e3⟩ := hv.num
    refine ⟨_, pss_one (ps_ret (pe_and (pe_callB call_isi (by rfl) B.isi b_isi (pa_cons (pv 0) (pa_cons (pe_bltn (v := .ty "int") (by rfl) B.int b_int rfl) pa_nil)))
      (pe_one (pe_not (pe_callB call_isi (by rfl) B.isi b_isi (pa_cons (pv 0) (pa_cons (pe_bltn (v := .ty "bool") (by rfl) B.bool b_bool rfl) pa_nil))))))), ?_⟩
    refine ⟨_, rfl, _, _, _, _, _, rfl, ty, .inl ⟨_, rfl, rfl⟩, e1, _, rfl, ?_⟩
    cases b with
    | false =>
      refine iteF ?_
      rw [e2 rfl] at k
      exact k
    | true =>
      obtain ⟨c, e4, e5⟩ := e3 rfl
      rw [e5] at k
      exact iteT ⟨_, rfl, _, _, _, _, _, rfl, ty, .inl ⟨_, rfl, rfl⟩, e4, _, rfl, k⟩
theorem d_isnum (D : Def P w K mg base 1 "is_number" ["thing"] (spIsNumG K)) : Def P w K mg base 1 "is_number" ["thing"] spIsNum := Def.less D fun vs H Q E ⟨i, e, q⟩ => ⟨.int i, e, .int i, q⟩
def badV (p : Nat) : V → Bool
  | .int i => decide (i < 0) || decide ((p : Int) ≤ i)
  | _ => true
def spEachB (K : PySem.W.Frag) : Sp := fun vs H Q _ => ∃ (p : Nat) (a : Addr) (xs : List V), vs = [.int (p : Int), .ref a] ∧ H a = some (.lst xs) ∧ (∀ x ∈ xs, Any K H x) ∧ Q (.bl (xs.all fun x => !badV p x)) H
theorem scEachB : FnScope ["bound", "things", "thing"] ["bound", "things"] (defScope sEachB) := ⟨rfl, rfl, rfl, by decide +kernel, rfl, by decide +kernel, by decide +kernel⟩
theorem d_eachb (S : Src K mg "is_each_below" sEachB ["bound", "things"]) (D1 : Def P w K mg base 1 "is_number" ["thing"] (spIsNumG K)) : Def P w K mg base 2 "is_each_below" ["bound", "things"] (spEachB K) := by
  refine S.ok scEachB (fun vs H Q E h => ?_) (fun f cdv A outer s H vs Q E hr h => ?_)
  · obtain ⟨p, a, xs, rfl, _⟩ := h
    rfl
  · obtain ⟨p, a, xs, rfl, ha, hx, k⟩ := h
    refine ⟨_, pss_cons (ps_for PassesOwn.never rfl (pi_list (pv 1)) (pg_name (i := 2) scEachB.nd rfl (Or.inl rfl))
      (pss_one (ps_if (pw_or (pt_not (pt_val (pe_callD D1 hr (by rfl) (pa_cons (pv 2) pa_nil)))) (pw_or (pt_cmp (pc_lt (pv 2) pe_int)) (pw_or1 (pt_cmp (pc_ge (pv 2) (pv 0)))))).pt (pss_one (ps_ret pe_bl)) pss_nil)))
      (pss_one (ps_ret pe_bl)), ?_⟩
    refine ⟨_, rfl, a, rfl, ⟨_, SqL.of ha⟩, for_list (K := K) (a := a) (xs := xs) (fun i σ H' => ∃ v, σ = [some (.int (p : Int)), some (.ref a), v] ∧ H' = H ∧ ∀ x ∈ xs.take i, badV p x = false) ⟨none, rfl, rfl, by simp⟩ (fun i σ H' _ ⟨_, _, e, _⟩ => e ▸ SqL.of ha) ?_ ?_⟩
    · rintro i x σ H' hi ⟨v, rfl, rfl, ok⟩
      have hm := List.mem_of_getElem? hi
      have anyx := hx x hm
      refine ⟨_, rfl, x, rfl, anyx, _, rfl, ?_⟩
      have more : badV p x = false → ∀ y ∈ xs.take (i + 1), badV p y = false := fun e y hy => by
        rw [List.take_add_one, hi] at hy
        rcases List.mem_append.mp hy with z | z
        · exact ok y z
        · have : y = x := by simpa using z
          exact this ▸ e
      have no : badV p x = true → Q (.bl false) H' := fun e => by
        have : (xs.all fun x => !badV p x) = false := List.all_eq_false.mpr ⟨x, hm, by rw [e]; simp⟩
        rw [this] at k
        exact k
      cases x with
      | int i' =>
        refine iteF ?_
        refine ⟨_, rfl, _, _, rfl, rfl, _, rfl, ite2d (fun c => ?_) (fun c => ?_)⟩
        · exact no (by show (decide (i' < 0) || _) = true; rw [decide_eq_true c]; rfl)
        · refine ⟨_, rfl, _, rfl, _, _, rfl, rfl, _, rfl, ite2d (fun d => ?_) (fun d => ?_)⟩
          · exact no (by show (_ || decide ((p : Int) ≤ i')) = true; rw [decide_eq_true d]; exact Bool.or_true _)
          · exact ⟨_, rfl, rfl, more (by show (decide (i' < 0) || decide ((p : Int) ≤ i')) = false; rw [decide_eq_false c, decide_eq_false d]; rfl)⟩
      | non => exact iteT (no rfl)
      | bl b => exact iteT (no rfl)
      | str y => exact iteT (no rfl)
      | byt y => exact iteT (no rfl)
      | flt y => exact iteT (no rfl)
      | ref y => exact iteT (no rfl)
      | ty y => exact iteT (no rfl)
    · rintro σ H' ⟨v, rfl, rfl, ok⟩
      rw [List.take_length] at ok
      have : (xs.all fun x => !badV p x) = true := List.all_eq_true.mpr fun x hx => by rw [ok x hx]; rfl
      rw [this] at k
      exact k
theorem goodI {p : Nat} {ws : List Nat} (h : ∀ w ∈ ws, w < p) : ((vI ws).all fun x => !badV p x) = true := List.all_eq_true.mpr fun x hx => by
  rw [vI_eq] at hx
  obtain ⟨w, hw, rfl⟩ := List.mem_map.mp hx
  have := h w hw
  show (!(decide (((w : Nat) : Int) < 0) || decide ((p : Int) ≤ ((w : Nat) : Int)))) = true
  rw [decide_eq_false (by omega), decide_eq_false (by omega)]
  rfl
def spListB (K : PySem.W.Frag) : Sp := fun vs H Q _ => ∃ (v : V) (m : Nat), vs = [v, .int (m : Int)] ∧ Any K H v ∧ (∀ a xs, v = .ref a → H a = some (.lst xs) → (∀ x ∈ xs, Any K H x) ∧ Q (.bl (xs.all fun x => !badV (xs.length + m) x)) H) ∧ ((∀ a xs, v = .ref a → H a ≠ some (.lst xs)) → Q (.bl false) H)
theorem scListB : FnScope ["things", "more"] ["things", "more"] (defScope sListB) := ⟨rfl, rfl, rfl, by decide +kernel, rfl, by decide +kernel, by decide +kernel⟩
theorem d_listb (S : Src K mg "is_list_below_its_length" sListB ["things", "more"]) (B : Bt K mg) (D1 : Def P w K mg base 2 "is_each_below" ["bound", "things"] (spEachB K)) : Def P w K mg base 3 "is_list_below_its_length" ["things", "more"] (spListB K) := by
  refine S.ok scListB (fun vs H Q E h => ?_) (fun f cdv A outer s H vs Q E hr h => ?_)
  · obtain ⟨v, m, rfl, _⟩ := h
    rfl
  · obtain ⟨v, m, rfl, hv, k1, k2⟩ := h
    obtain ⟨t, b, ty, e1, e2, e3⟩ := hv.isL
    refine ⟨_, pss_one (ps_ret (pe_and (pe_callB call_isi (by rfl) B.isi b_isi (pa_cons (pv 0) (pa_cons (pe_bltn (v := .ty "list") (by rfl) B.list b_list rfl) pa_nil)))
      (pe_one (pe_callD D1 hr (by rfl) (pa_cons (pe_op op_add (pe_callB call_len_seq (by rfl) B.len b_len (pa_cons (pv 0) pa_nil)) (pv 1)) (pa_cons (pv 0) pa_nil)))))), ?_⟩
    refine ⟨_, rfl, _, _, _, _, _, rfl, ty, .inl ⟨_, rfl, rfl⟩, e1, _, rfl, ?_⟩
    cases b with
    | false => exact iteF (k2 (e3 rfl))
    | true =>
      obtain ⟨a, xs, rfl, ha⟩ := e2 rfl
      obtain ⟨hx, q⟩ := k1 a xs rfl ha
      refine iteT ⟨_, rfl, a, _, rfl, .inl (SqL.of ha), _, rfl, _, _, rfl, rfl, _, rfl, xs.length + m, a, xs, ?_, ha, hx, q⟩
      rw [Int.natCast_add]
      rfl
def stV : V → Bool
  | .int i => decide (1 ≤ i) && decide (i ≤ 1000000)
  | _ => false
def spIsStreet (K : PySem.W.Frag) : Sp := fun vs H Q _ => ∃ v, vs = [v] ∧ Any K H v ∧ Q (.bl (stV v)) H
theorem scIsStreet : FnScope ["places"] ["places"] (defScope sIsStreet) := ⟨rfl, rfl, rfl, by decide +kernel, rfl, by decide +kernel, by decide +kernel⟩
theorem d_isstreet (S : Src K mg "is_street" sIsStreet ["places"]) (hm : ∃ t, mg "MOST_PLACES" = some (.int 1000000 t)) (D1 : Def P w K mg base 1 "is_number" ["thing"] (spIsNumG K)) : Def P w K mg base 2 "is_street" ["places"] (spIsStreet K) := by
  obtain ⟨tm, hm⟩ := hm
  refine S.ok scIsStreet (fun vs H Q E h => ?_) (fun f cdv A outer s H vs Q E hr h => ?_)
  · obtain ⟨v, rfl, _⟩ := h
    rfl
  · obtain ⟨v, rfl, hv, k⟩ := h
    refine ⟨_, pss_one (ps_ret (pe_and (pe_callD D1 hr (by rfl) (pa_cons (pv 0) pa_nil)) (pe_and (pe_cmpR op_ge (pv 0) pe_int (nomark _)) (pe_one (pe_cmpR op_le (pv 0) (pe_glob (v := .int 1000000) (by rfl) hm ⟨tm, rfl⟩) (nomark _)))))), ?_⟩
    refine ⟨_, rfl, v, rfl, hv, _, rfl, ?_⟩
    cases v with
    | int i =>
      refine iteT ⟨_, rfl, _, _, rfl, rfl, _, rfl, ite2d (fun c => ?_) (fun c => ?_)⟩
      · refine ⟨_, rfl, _, _, rfl, rfl, ?_⟩
        have e : stV (.int i) = decide (i ≤ 1000000) := by show (decide (1 ≤ i) && _) = _; rw [decide_eq_true c]; rfl
        rw [e] at k
        exact k
      · have e : stV (.int i) = false := by show (decide (1 ≤ i) && _) = _; rw [decide_eq_false c]; rfl
        rw [e] at k
        exact k
    | non => exact iteF k
    | bl b => exact iteF k
    | str y => exact iteF k
    | byt y => exact iteF k
    | flt y => exact iteF k
    | ref y => exact iteF k
    | ty y => exact iteF k
def spChkStreet : Sp := fun vs H Q _ => ∃ (p : Nat) (a : Addr) (ws : List Nat), vs = [.int (p : Int), .ref a] ∧ H a = some (.lst (vI ws)) ∧ (∀ w ∈ ws, w < p) ∧ 1 ≤ p ∧ p ≤ 1000000 ∧ Q .non H
theorem scChkStreet : FnScope ["places", "wishes"] ["places", "wishes"] (defScope sChkStreet) := ⟨rfl, rfl, rfl, by decide +kernel, rfl, by decide +kernel, by decide +kernel⟩
theorem d_chkstreet (S : Src K mg "check_street" sChkStreet ["places", "wishes"]) (B : Bt K mg) (D1 : Def P w K mg base 2 "is_street" ["places"] (spIsStreet K)) (D2 : Def P w K mg base 2 "is_each_below" ["bound", "things"] (spEachB K)) : Def P w K mg base 3 "check_street" ["places", "wishes"] spChkStreet := by
  refine S.ok scChkStreet (fun vs H Q E h => ?_) (fun f cdv A outer s H vs Q E hr h => ?_)
  · obtain ⟨p, a, ws, rfl, _⟩ := h
    rfl
  · obtain ⟨p, a, ws, rfl, ha, hw, h1, h2, k⟩ := h
    refine ⟨_, pss_cons (ps_if (pt_not (pt_val (pe_callD D1 hr (by rfl) (pa_cons (pv 0) pa_nil)))) pss_never pss_nil)
      (pss_one (ps_if (pw_or (pt_not (pt_val (pe_callB call_isi (by rfl) B.isi b_isi (pa_cons (pv 1) (pa_cons (pe_bltn (v := .ty "list") (by rfl) B.list b_list rfl) pa_nil))))) (pw_or1 (pt_not (pt_val (pe_callD D2 hr (by rfl) (pa_cons (pv 0) (pa_cons (pv 1) pa_nil))))))).pt pss_never pss_nil)), ?_⟩
    have e : stV (.int (p : Int)) = true := by show (decide (1 ≤ (p : Int)) && decide ((p : Int) ≤ 1000000)) = true; rw [decide_eq_true (by omega), decide_eq_true (by omega)]; rfl
    refine ⟨_, rfl, _, rfl, .int _, _, rfl, ?_⟩
    rw [e]
    refine iteF ?_
    refine ⟨_, rfl, _, _, _, _, _, rfl, .lst ha, .inl ⟨_, rfl, rfl⟩, kit_same _ _, _, rfl, iteF ?_⟩
    refine ⟨_, rfl, _, rfl, p, a, _, rfl, ha, anyI K H (toI ws), _, rfl, ?_⟩
    rw [goodI hw]
    exact iteF k
def spFree : Sp := fun vs H Q _ => ∃ (nx : Nat → Nat) (d : Addr) (w m : Nat) (kvs : List (Key × V)) (D : Nat → Option Nat), vs = [.ref d, .int (w : Int)] ∧ H d = some (.dK kvs) ∧ DRel kvs D ∧ Pk.Good nx D ∧ Pk.Fst nx D w m ∧ kvs.length ≤ 1000 ∧
  ∀ (kvs' : List (Key × V)) (D' : Nat → Option Nat), DRel kvs' D' → Pk.Good nx D' → (∀ q, D' q = none ↔ D q = none) → kvs'.length = kvs.length → Q (.int ((Pk.it nx m w : Nat) : Int)) (upd H d (.dK kvs'))
theorem scFree : FnScope ["onward", "wish", "place", "further"] ["onward", "wish"] (defScope sFree) := ⟨rfl, rfl, rfl, by decide +kernel, rfl, by decide +kernel, by decide +kernel⟩
theorem getD_int {o : Option Nat} {n : Nat} : (o.map fun k => V.int ((k : Nat) : Int)).getD (.int ((n : Nat) : Int)) = V.int ((o.getD n : Nat) : Int) := by
  cases o <;> rfl
theorem d_free (S : Src K mg "first_free" sFree ["onward", "wish"]) : Def P w K mg base 1 "first_free" ["onward", "wish"] spFree := by
  refine S.ok scFree (fun vs H Q E h => ?_) (fun f cdv A outer s H vs Q E hr h => ?_)
  · obtain ⟨nx, d, w, m, kvs, D, rfl, _⟩ := h
    rfl
  · obtain ⟨nx, d, w, m, kvs, D, rfl, hd, rel, good, fst, hl, k⟩ := h
    have hu := hu_of hr
    refine ⟨_, pss_cons (ps_set (i := 2) scFree.nd rfl (Or.inl rfl) (pv 1))
      (pss_cons (ps_while PassesOwn.never (pt_cmp (pc_din hu (pv 2) (pv 0)))
        (pss_cons (ps_set (i := 3) scFree.nd rfl (Or.inl rfl) (pe_dget hu (pv 0) (pv 2) (fun _ _ => rfl)))
        (pss_cons (ps_dput hu (pv 0) (pv 2) (pe_dget2 hu (pv 0) (pv 3) (pv 3) ⟨rfl, rfl, rfl, rfl⟩) rfl)
        (pss_one (ps_set (i := 2) scFree.nd rfl (Or.inl rfl) (pe_dget hu (pv 0) (pv 2) (fun _ _ => rfl)))))))
      (pss_one (ps_ret (pv 2)))), ?_⟩
    refine ⟨_, rfl, ?_⟩
    refine ⟨fun M σ H' => ∃ (a : Nat) (kvs' : List (Key × V)) (D' : Nat → Option Nat) (v3 : Option V), a ≤ m ∧ M = m - a ∧ σ = [some (.ref d), some (.int (w : Int)), some (.int ((Pk.it nx a w : Nat) : Int)), v3] ∧ H' = upd H d (.dK kvs') ∧ DRel kvs' D' ∧
      Pk.Good nx D' ∧ Pk.Fst nx D' w m ∧ (∀ q, D' q = none ↔ D q = none) ∧ kvs'.length = kvs.length, ⟨m, 0, kvs, D, none, Nat.zero_le _, rfl, rfl, (upd_id hd).symm, rel, good, fst, fun _ => Iff.rfl, rfl⟩, ?_⟩
    rintro M σ H' ⟨a, kvs', D', v3, ham, rfl, rfl, rfl, rel', good', fst', dom, len'⟩
    have g0 : DGet (upd H d (.dK kvs')) d (kV (Sum.inl ((Pk.it nx a w : Nat) : Int))) ((D' (Pk.it nx a w)).map fun n => V.int ((n : Nat) : Int)) := by
      rw [← rel']
      exact DGet.k upd_same
    refine ⟨_, rfl, _, rfl, d, _, rfl, g0, _, rfl, ?_⟩
    cases e : D' (Pk.it nx a w) with
    | none =>
      refine iteF ?_
      have eam : a = m := by
        rcases Nat.lt_or_ge a m with z | z
        · have := fst'.ins a z
          rw [e] at this
          cases this
        · omega
      subst eam
      exact ⟨_, rfl, k kvs' D' rel' good' dom len'⟩
    | some n =>
      refine iteT ?_
      obtain ⟨a', h1, h2, h3, h4, h5, h6⟩ := Pk.turn good' fst' ham rfl e
      have ev : valV kvs' (Sum.inl ((Pk.it nx a w : Nat) : Int) : Key) = some (V.int ((n : Nat) : Int)) := by rw [rel', e]; rfl
      have g1 : DGet (upd H d (.dK kvs')) d (kV (Sum.inl ((Pk.it nx a w : Nat) : Int))) (some (V.int ((n : Nat) : Int))) := by
        rw [← ev]
        exact DGet.k upd_same
      have g2 : DGet (upd H d (.dK kvs')) d (kV (Sum.inl ((n : Nat) : Int))) ((D' n).map fun k => V.int ((k : Nat) : Int)) := by
        rw [← rel']
        exact DGet.k upd_same
      have rel2 := rel'.put (Pk.it nx a w) ((D' n).getD n)
      have g3 : DGet (upd (upd H d (.dK kvs')) d (.dK (putK kvs' (Sum.inl ((Pk.it nx a w : Nat) : Int)) (.int (((D' n).getD n : Nat) : Int))))) d (kV (Sum.inl ((Pk.it nx a w : Nat) : Int))) (some (V.int (((D' n).getD n : Nat) : Int))) := by
        have e2 : valV (putK kvs' (Sum.inl ((Pk.it nx a w : Nat) : Int)) (.int (((D' n).getD n : Nat) : Int))) (Sum.inl ((Pk.it nx a w : Nat) : Int) : Key) = some (V.int (((D' n).getD n : Nat) : Int)) := by
          rw [valV_put, if_pos rfl]
        rw [← e2]
        exact DGet.k upd_same
      refine ⟨fun σ' H' => ∃ m', m' < m - a ∧ ∃ (a : Nat) (kvs' : List (Key × V)) (D' : Nat → Option Nat) (v3 : Option V), a ≤ m ∧ m' = m - a ∧ σ' = [some (.ref d), some (.int (w : Int)), some (.int ((Pk.it nx a w : Nat) : Int)), v3] ∧ H' = upd H d (.dK kvs') ∧ DRel kvs' D' ∧
        Pk.Good nx D' ∧ Pk.Fst nx D' w m ∧ (∀ q, D' q = none ↔ D q = none) ∧ kvs'.length = kvs.length, fun _ _ z => z, ?_⟩
      refine ⟨_, rfl, _, rfl, d, _, rfl, g1, ?_⟩
      refine ⟨_, rfl, d, rfl, .inl ⟨_, .inl upd_same⟩, _, rfl, _, rfl, _, g2, _, rfl, _, rfl, d, upd (upd H d (.dK kvs')) d (.dK (putK kvs' (Sum.inl ((Pk.it nx a w : Nat) : Int)) (.int (((D' n).getD n : Nat) : Int)))), rfl,
        (by rw [getD_int]; exact DPut.k (k := Sum.inl ((Pk.it nx a w : Nat) : Int)) upd_same (small1000 (by omega))), ?_⟩
      refine ⟨_, rfl, _, rfl, d, _, rfl, g3, ?_⟩
      refine ⟨m - a', by omega, a', putK kvs' (Sum.inl ((Pk.it nx a w : Nat) : Int)) (.int (((D' n).getD n : Nat) : Int)), Pk.put D' (Pk.it nx a w) ((D' n).getD n), some (.int ((n : Nat) : Int)), h2, rfl, ?_, upd_upd, rel2, h4, h5, fun q => (h6 q).trans (dom q), (putK_len ev).trans len'⟩
      rw [← h3]
      rfl
theorem take_succ_at {ws : List Nat} {i w : Nat} (h : ws[i]? = some w) : ws.take (i + 1) = ws.take i ++ [w] := by
  rw [List.take_add_one, h]
  rfl
theorem wh_take {p : Nat} {ws : List Nat} {i w : Nat} (h : ws[i]? = some w) : Pk.wh p (ws.take (i + 1)) = Pk.wh p (ws.take i) ++ [Pk.ff (Pk.wh p (ws.take i)) p w] := by
  rw [take_succ_at h]
  exact Pk.whs_snoc p w _ []
def Held (p : Nat) (fs : List Nat) (D : Nat → Option Nat) : Prop := ∀ q, D q = none ↔ ¬ (q < p ∧ q ∈ fs)
theorem Held.fst {p w : Nat} {fs : List Nat} {D : Nat → Option Nat} (h : Held p fs D) : ∃ m, Pk.Fst (· + 1) D w m ∧ Pk.it (· + 1) m w = Pk.ff fs p w := by
  have F := Pk.ff_is fs p w
  refine ⟨Pk.ff fs p w - w, ⟨?_, fun j hj => ?_⟩, ?_⟩
  · rw [Pk.it_street, show w + (Pk.ff fs p w - w) = Pk.ff fs p w by have := F.le; omega]
    exact (h _).mpr fun ⟨a, b⟩ => F.fin a b
  · rw [Pk.it_street]
    obtain ⟨a, b⟩ := F.mid (w + j) (by omega) (by omega)
    cases e : D (w + j) with
    | none => exact absurd ⟨a, b⟩ ((h _).mp e)
    | some n => rfl
  · rw [Pk.it_street]
    have := F.le
    omega
def spStands : Sp := fun vs H Q _ => ∃ (p : Nat) (a : Addr) (ws : List Nat), vs = [.int (p : Int), .ref a] ∧ H a = some (.lst (vI ws)) ∧ ws.length ≤ 900 ∧
  ∀ (l : Addr) (H' : Hp), H l = none → H' l = some (.lst (vI (Pk.wh p ws))) → Same H H' → Q (.ref l) H'
theorem scStands : FnScope ["places", "wishes", "onward", "where", "wish", "place"] ["places", "wishes"] (defScope sStands) := ⟨rfl, rfl, rfl, by decide +kernel, rfl, by decide +kernel, by decide +kernel⟩
theorem d_stands (S : Src K mg "stands" sStands ["places", "wishes"]) (D1 : Def P w K mg base 1 "first_free" ["onward", "wish"] spFree) : Def P w K mg base 2 "stands" ["places", "wishes"] spStands := by
  refine S.ok scStands (fun vs H Q E h => ?_) (fun f cdv A outer s H vs Q E hr h => ?_)
  · obtain ⟨p, a, ws, rfl, _⟩ := h
    rfl
  · obtain ⟨p, a, ws, rfl, ha, hlen, k⟩ := h
    have hu := hu_of hr
    refine ⟨_, pss_cons (ps_set (i := 2) scStands.nd rfl (Or.inl rfl) pe_dnewK)
      (pss_cons (ps_set (i := 3) scStands.nd rfl (Or.inl rfl) (pe_lst pa_nil))
      (pss_cons (ps_for PassesOwn.never rfl (pi_list (pv 1)) (pg_name (i := 4) scStands.nd rfl (Or.inl rfl))
        (pss_cons (ps_set (i := 5) scStands.nd rfl (Or.inl rfl) (pe_callD D1 hr (by rfl) (pa_cons (pv 2) (pa_cons (pv 4) pa_nil))))
        (pss_cons (ps_if (pt_cmp (pc_lt (pv 5) (pv 0))) (pss_one (ps_dput hu (pv 2) (pv 5) (pe_op op_add (pv 5) pe_int) rfl)) pss_nil)
        (pss_one (ps_expr (pe_bm PySem.F.plainAttrs_list PySem.F.slot_list_append PySem.F.type_list_append mt_append (pv 3) (pa_cons (pv 5) pa_nil)))))))
      (pss_one (ps_ret (pv 3))))), ?_⟩
    intro d nd
    refine ⟨Nat.zero_le _, fun l nl => ?_⟩
    obtain ⟨nld, nl0⟩ := upd_none nl
    have s0 : Same H (upd (upd H d (.dK [])) l (.lst [])) := (Same.new nd).next nl
    refine ⟨_, rfl, a, rfl, ⟨_, SqL.of (s0 _ _ ha)⟩, for_list (K := K) (a := a) (xs := vI ws) (fun i σ H' => ∃ (v4 v5 : Option V) (kvs : List (Key × V)) (D : Nat → Option Nat), σ = [some (.int (p : Int)), some (.ref a), some (.ref d), some (.ref l), v4, v5] ∧ Same H H' ∧
      H' d = some (.dK kvs) ∧ H' l = some (.lst (vI (Pk.wh p (ws.take i)))) ∧ DRel kvs D ∧ Pk.Good (· + 1) D ∧ Held p (Pk.wh p (ws.take i)) D ∧ kvs.length ≤ i) ?_ (fun i σ H' _ ⟨_, _, _, _, _, sm, _⟩ => SqL.of (sm _ _ ha)) ?_ ?_⟩
    · refine ⟨none, none, [], fun _ => none, rfl, s0, by rw [upd_ne (Ne.symm nld), upd_same], upd_same, DRel.nil, Pk.Good.none, fun q => ⟨fun _ z => ?_, fun _ => rfl⟩, Nat.zero_le _⟩
      have : q ∈ ([] : List Nat) := z.2
      cases this
    · rintro i x σ H' hx ⟨v4, v5, kvs, D, rfl, sm, hd, hl, rel, good, held, len⟩
      obtain ⟨w, hi, rfl⟩ := vI_at hx
      have hil : i < ws.length := (List.getElem?_eq_some_iff.mp hi).1
      obtain ⟨m, fst, eff⟩ := held.fst (w := w)
      refine ⟨_, rfl, _, rfl, (· + 1), d, w, m, kvs, D, rfl, hd, rel, good, fst, by omega, fun kvs' D' rel' good' dom len' => ?_⟩
      rw [eff]
      have ndl : d ≠ l := Ne.symm nld
      have hl1 : (upd H' d (.dK kvs')) l = some (.lst (vI (Pk.wh p (ws.take i)))) := by rw [upd_ne nld]; exact hl
      have sm1 : Same H (upd H' d (.dK kvs')) := sm.own nd
      have wl : (vI (Pk.wh p (ws.take i))).length < sizeLine := by
        rw [vI_len, Pk.wh_len]
        exact small1000 (by rw [List.length_take]; omega)
      have done : ∀ (H2 : Hp) (kvs2 : List (Key × V)) (D2 : Nat → Option Nat), Same H H2 → H2 d = some (.dK kvs2) → H2 l = some (.lst (vI (Pk.wh p (ws.take i)))) → DRel kvs2 D2 → Pk.Good (· + 1) D2 → Held p (Pk.wh p (ws.take (i + 1))) D2 → kvs2.length ≤ i + 1 →
          ∃ (v4 v5 : Option V) (kvs : List (Key × V)) (D : Nat → Option Nat), ([some (.int (p : Int)), some (.ref a), some (.ref d), some (.ref l), some (.int (w : Int)), some (.int ((Pk.ff (Pk.wh p (ws.take i)) p w : Nat) : Int))] : St) = [some (.int (p : Int)), some (.ref a), some (.ref d), some (.ref l), v4, v5] ∧
          Same H (upd H2 l (.lst (vI (Pk.wh p (ws.take i)) ++ [V.int ((Pk.ff (Pk.wh p (ws.take i)) p w : Nat) : Int)]))) ∧ (upd H2 l (.lst (vI (Pk.wh p (ws.take i)) ++ [V.int ((Pk.ff (Pk.wh p (ws.take i)) p w : Nat) : Int)]))) d = some (.dK kvs) ∧
          (upd H2 l (.lst (vI (Pk.wh p (ws.take i)) ++ [V.int ((Pk.ff (Pk.wh p (ws.take i)) p w : Nat) : Int)]))) l = some (.lst (vI (Pk.wh p (ws.take (i + 1))))) ∧ DRel kvs D ∧ Pk.Good (· + 1) D ∧ Held p (Pk.wh p (ws.take (i + 1))) D ∧ kvs.length ≤ i + 1 := fun H2 kvs2 D2 z1 z2 z3 z4 z5 z6 z7 =>
        ⟨_, _, kvs2, D2, rfl, z1.own nl0, by rw [upd_ne ndl]; exact z2, by rw [upd_same, wh_take hi, vI_snoc], z4, z5, z6, z7⟩
      refine ⟨_, rfl, _, rfl, _, _, rfl, rfl, _, rfl, ite2d (fun hlt => ?_) (fun hge => ?_)⟩
      · have hlt : Pk.ff (Pk.wh p (ws.take i)) p w < p := by omega
        have free : D' (Pk.ff (Pk.wh p (ws.take i)) p w) = none := (dom _).mpr ((held _).mpr fun ⟨z1, z2⟩ => (Pk.ff_is _ p w).fin z1 z2)
        refine ⟨_, rfl, _, _, rfl, rfl, _, rfl, _, rfl, d, upd (upd H' d (.dK kvs')) d (.dK (putK kvs' (Sum.inl ((Pk.ff (Pk.wh p (ws.take i)) p w : Nat) : Int)) (.int ((Pk.ff (Pk.wh p (ws.take i)) p w + 1 : Nat) : Int)))), rfl,
          DPut.k (k := Sum.inl ((Pk.ff (Pk.wh p (ws.take i)) p w : Nat) : Int)) (v := .int ((Pk.ff (Pk.wh p (ws.take i)) p w + 1 : Nat) : Int)) upd_same (small1000 (by omega)), ?_⟩
        refine ⟨_, rfl, .inl ⟨rfl, _, SqL.of (by rw [upd_ne nld]; exact hl1)⟩, _, rfl, l, _, _, rfl, rfl, (by rw [upd_ne nld]; exact hl1), wl, ?_⟩
        refine done _ (putK kvs' (Sum.inl ((Pk.ff (Pk.wh p (ws.take i)) p w : Nat) : Int)) (.int ((Pk.ff (Pk.wh p (ws.take i)) p w + 1 : Nat) : Int))) (Pk.put D' (Pk.ff (Pk.wh p (ws.take i)) p w) (Pk.ff (Pk.wh p (ws.take i)) p w + 1)) (sm1.own nd) upd_same (by rw [upd_ne nld]; exact hl1) (rel'.put _ _) (good'.more free) (fun q => ?_) ?_
        · rw [wh_take hi]
          unfold Pk.put
          by_cases c : q = Pk.ff (Pk.wh p (ws.take i)) p w
          · rw [if_pos c]
            refine ⟨fun z => (by cases z), fun z => absurd ⟨c ▸ hlt, List.mem_append.mpr (.inr (by simp [c]))⟩ z⟩
          · rw [if_neg c, dom, held]
            constructor
            · intro z ⟨y1, y2⟩
              rcases List.mem_append.mp y2 with y | y
              · exact z ⟨y1, y⟩
              · exact c (by simpa using y)
            · intro z ⟨y1, y2⟩
              exact z ⟨y1, List.mem_append.mpr (.inl y2)⟩
        · have := length_putK kvs' (Sum.inl ((Pk.ff (Pk.wh p (ws.take i)) p w : Nat) : Int) : Key) (.int ((Pk.ff (Pk.wh p (ws.take i)) p w + 1 : Nat) : Int))
          omega
      · have hge : ¬ Pk.ff (Pk.wh p (ws.take i)) p w < p := by omega
        refine ⟨_, rfl, .inl ⟨rfl, _, SqL.of hl1⟩, _, rfl, l, _, _, rfl, rfl, hl1, wl, ?_⟩
        refine done _ kvs' D' sm1 upd_same hl1 rel' good' (fun q => ?_) (by omega)
        rw [wh_take hi, dom, held]
        constructor
        · intro z ⟨y1, y2⟩
          rcases List.mem_append.mp y2 with y | y
          · exact z ⟨y1, y⟩
          · have : q = Pk.ff (Pk.wh p (ws.take i)) p w := by simpa using y
            omega
        · intro z ⟨y1, y2⟩
          exact z ⟨y1, List.mem_append.mpr (.inl y2)⟩
    · rintro σ H' ⟨v4, v5, kvs, D, rfl, sm, hd, hl, _⟩
      rw [vI_len, List.take_length] at hl
      exact ⟨_, rfl, k l H' nl0 hl sm⟩
theorem perm_nat {ns : List Int} {ws : List Nat} (h : ns.Perm (toI ws)) : ∃ s : List Nat, ns = toI s ∧ s.Perm ws := by
  refine ⟨ns.map Int.toNat, ?_, ?_⟩
  · unfold toI
    rw [List.map_map]
    have : ns.map ((fun n : Nat => ((n : Nat) : Int)) ∘ Int.toNat) = ns.map id := List.map_congr_left fun x hx => by
      have hm := h.mem_iff.mp hx
      unfold toI at hm
      obtain ⟨n, _, e⟩ := List.mem_map.mp hm
      show ((x.toNat : Nat) : Int) = x
      omega
    rw [this, List.map_id]
  · have := h.map Int.toNat
    have e : (toI ws).map Int.toNat = ws := by
      unfold toI
      rw [List.map_map]
      have : ws.map (Int.toNat ∘ fun n : Nat => ((n : Nat) : Int)) = ws.map id := List.map_congr_left fun x _ => rfl
      rw [this, List.map_id]
    rw [e] at this
    exact this
theorem fall_nat {s : List Nat} (h : PyProof.Rows.Ordered true (toI s)) : s.Pairwise (fun a b => b ≤ a) := by
  have h : (toI s).Pairwise (· ≥ ·) := h
  unfold toI at h
  rw [List.pairwise_map] at h
  exact h.imp fun z => by omega
theorem rise_nat {s : List Nat} (h : (toI s).Pairwise (· ≤ ·)) : s.Pairwise (· ≤ ·) := by
  unfold toI at h
  rw [List.pairwise_map] at h
  exact h.imp fun z => by omega
def spCrowd : Sp := fun vs H Q _ => ∃ (p : Nat) (a : Addr) (ws : List Nat), vs = [.int (p : Int), .ref a] ∧ H a = some (.lst (vI ws)) ∧ ws.length ≤ 63 ∧
  ∀ H', Same H H' → (∀ w ∈ ws, p < w + Pk.cnt ws w → Q (.int (w : Int)) H') ∧ ((∀ w ∈ ws, ¬ p < w + Pk.cnt ws w) → Q .non H')
theorem scCrowd : FnScope ["places", "wishes", "cars", "wish"] ["places", "wishes"] (defScope sCrowdPl) := ⟨rfl, rfl, rfl, by decide +kernel, rfl, by decide +kernel, by decide +kernel⟩
theorem d_crowd (S : Src K mg "crowd_place" sCrowdPl ["places", "wishes"]) (B : Bt K mg) : Def P w K mg base 1 "crowd_place" ["places", "wishes"] spCrowd := by
  refine S.ok scCrowd (fun vs H Q E h => ?_) (fun f cdv A outer s H vs Q E hr h => ?_)
  · obtain ⟨p, a, ws, rfl, _⟩ := h
    rfl
  · obtain ⟨p, a, ws, rfl, ha, hlen, k⟩ := h
    refine ⟨_, pss_cons (ps_for PassesOwn.never rfl (pi_enum1 (by rfl) B.enum (pa_cons (pe_callBK call_sortedR (by rfl) B.sorted b_sorted (pa_cons (pv 1) pa_nil) (pk_cons pe_bl pk_nil)) pa_nil)) (pg_tup rfl (pgs_cons (pg_name (i := 2) scCrowd.nd rfl (Or.inl rfl)) (pgs_cons (pg_name (i := 3) scCrowd.nd rfl (Or.inl rfl)) pgs_nil)))
        (pss_one (ps_if (pt_cmp (pc_gt (pv 2) (pe_op op_sub (pv 0) (pv 3)))) (pss_one (ps_ret (pv 3))) pss_nil)))
      (pss_one (ps_ret pe_non)), ?_⟩
    refine ⟨_, rfl, a, toI ws, true, rfl, rfl, SqL.of ha, by rw [toI_len]; omega, fun ns' b perm ord nb => ?_⟩
    obtain ⟨fs, e, pm⟩ := perm_nat perm
    subst e
    have fall := fall_nat ord
    refine ⟨b, rfl, ⟨_, SqL.of upd_same⟩, for_enum (K := K) (a := b) (c := 1) (xs := vI fs) (fun i σ H' => ∃ v1 v2, σ = [some (.int (p : Int)), some (.ref a), v1, v2] ∧ Same H H' ∧ H' b = some (.lst (vI fs)) ∧ ∀ j w, j < i → fs[j]? = some w → j + 1 + w ≤ p)
      ⟨none, none, rfl, Same.new nb, upd_same, fun j w z => absurd z (Nat.not_lt_zero _)⟩ (fun i σ H' _ ⟨_, _, _, _, e, _⟩ => SqL.of e) ?_ ?_⟩
    · rintro i x σ H' q hx ⟨v1, v2, rfl, sm, hb, no⟩ nq
      obtain ⟨w, hi, rfl⟩ := vI_at hx
      refine ⟨q, _, rfl, SqT.of upd_same, rfl, _, _, rfl, _, _, rfl, rfl, ?_⟩
      refine ⟨_, rfl, _, rfl, _, rfl, _, _, rfl, rfl, _, _, rfl, rfl, _, rfl, ite2d (fun hc => ?_) (fun hc => ?_)⟩
      · refine ⟨_, rfl, (k _ (sm.next nq)).1 w (pm.mem_iff.mp (List.mem_of_getElem? hi)) ?_⟩
        have := Pk.fall_cnt_ge fall hi
        rw [Pk.cnt_perm pm] at this
        omega
      · refine ⟨_, _, rfl, sm.next nq, ?_, fun j w' hj hw' => ?_⟩
        · rw [upd_ne (ne_of_none hb nq)]; exact hb
        · by_cases c : j = i
          · subst c
            rw [hi] at hw'
            cases hw'
            omega
          · exact no j w' (by omega) hw'
    · rintro σ H' ⟨v1, v2, rfl, sm, hb, no⟩
      refine (k _ sm).2 fun w hw hc => ?_
      refine Pk.fall_none fall (fun j w' hw' => no j w' ?_ hw') w (pm.mem_iff.mpr hw) (by rw [Pk.cnt_perm pm]; exact hc)
      rw [vI_len]
      exact (List.getElem?_eq_some_iff.mp hw').1
structure Ans (K : PySem.W.Frag) (mg : Str → Option Value) (CP CC : Addr) : Prop where
  cp : Cls K CP
  cc : Cls K CC
  nw : NoAttr K CP "where"
  np : NoAttr K CC "place"
  mp : mg "Parked" = some (.ref CP)
  mc : mg "Crowd" = some (.ref CC)
  ip : ∃ (f : Addr) (fd : FuncData), Mk K CP f ∧ Fun K "__init__" "Parked.__init__" sInitP f fd ∧ Binds K fd ["self", "where"] []
  ic : ∃ (f : Addr) (fd : FuncData), Mk K CC f ∧ Fun K "__init__" "Crowd.__init__" sInitC f fd ∧ Binds K fd ["self", "place"] []
def spInitP (K : PySem.W.Frag) (C : Addr) : Sp := fun vs H Q _ => ∃ (x dx a : Addr) (xs : List V), vs = [.ref x, .ref a] ∧ H x = some (.ins C dx []) ∧ SqL K H a xs ∧ ∀ l, H l = none → Q .non (upd (upd H l (.lst xs)) x (.ins C dx [("where", .ref l)]))
theorem scInitP : FnScope ["self", "where"] ["self", "where"] (defScope sInitP) := ⟨rfl, rfl, rfl, by decide +kernel, rfl, by decide +kernel, by decide +kernel⟩
theorem ok_initP {f C : Addr} {fd : FuncData} (F : Fun K "__init__" "Parked.__init__" sInitP f fd) (c : Cls K C) (n : NoAttr K C "where") (B : Bt K mg) : FnOk P w K mg base CX0 1 f fd ["self", "where"] (spInitP K C) := by
  refine F.ok scInitP (fun vs H Q E h => ?_) (fun cdv A outer s H vs Q E hr h => ?_)
  · obtain ⟨x, dx, a, xs, rfl, _⟩ := h
    rfl
  · obtain ⟨x, dx, a, xs, rfl, hx, ha, k⟩ := h
    refine ⟨_, pss_one (ps_fld (pv 0) (pe_callTy call_list_of (by rfl) B.list b_list (pa_cons (pv 1) pa_nil)) rfl), ?_⟩
    refine ⟨_, rfl, a, xs, rfl, .inl ha, fun l nl => ?_⟩
    exact ⟨_, rfl, x, C, dx, [], rfl, by rw [upd_ne (ne_of_none hx nl)]; exact hx, c, n, (by show 0 < 1000; decide), k l nl⟩
def spInitC (C : Addr) : Sp := fun vs H Q _ => ∃ (x dx : Addr) (v : V), vs = [.ref x, v] ∧ H x = some (.ins C dx []) ∧ Q .non (upd H x (.ins C dx [("place", v)]))
theorem scInitC : FnScope ["self", "place"] ["self", "place"] (defScope sInitC) := ⟨rfl, rfl, rfl, by decide +kernel, rfl, by decide +kernel, by decide +kernel⟩
theorem ok_initC {f C : Addr} {fd : FuncData} (F : Fun K "__init__" "Crowd.__init__" sInitC f fd) (c : Cls K C) (n : NoAttr K C "place") : FnOk P w K mg base CX0 1 f fd ["self", "place"] (spInitC C) := by
  refine F.ok scInitC (fun vs H Q E h => ?_) (fun cdv A outer s H vs Q E hr h => ?_)
  · obtain ⟨x, dx, v, rfl, _⟩ := h
    rfl
  · obtain ⟨x, dx, v, rfl, hx, k⟩ := h
    refine ⟨_, pss_one (ps_fld (pv 0) (pv 1) rfl), ?_⟩
    exact ⟨_, rfl, _, rfl, x, C, dx, [], rfl, hx, c, n, (by show 0 < 1000; decide), k⟩
def tNewP (K : PySem.W.Frag) (CP : Addr) (t : TA) : TE := tMake CP (spInitP K CP) [] E0 t
theorem pe_newP {X : Cx} {CP CC : Addr} {p pos : Pos} {e : Expr} {t : TA} (T : Ans X.K X.mg CP CC) (B : Bt X.K X.mg) (hr : Room 2 X.A) (hg : Gl X "Parked") (ha : PA X [e] t) (he : starEach [e] X.env = (false, eval e X.env) :: starEach [] X.env := by rfl) :
    PE X (.Call (.Name "Parked" p) [e] [] pos) (tNewP X.K CP t) := by
  obtain ⟨f, fd, M, F, b⟩ := T.ip
  exact pe_make M (ok_initP F T.cp T.nw B) hr hg T.mp b .nil pass0 ha (by decide) he rfl
theorem pe_newC {X : Cx} {CP CC : Addr} {p pos : Pos} {e : Expr} {t : TA} (T : Ans X.K X.mg CP CC) (hr : Room 2 X.A) (hg : Gl X "Crowd") (ha : PA X [e] t) (he : starEach [e] X.env = (false, eval e X.env) :: starEach [] X.env := by rfl) :
    PE X (.Call (.Name "Crowd" p) [e] [] pos) (tMake CC (spInitC CC) [] E0 t) := by
  obtain ⟨f, fd, M, F, b⟩ := T.ic
  exact pe_make M (ok_initC F T.cc T.np) hr hg T.mc b .nil pass0 ha (by decide) he rfl
def AnsAt (CP CC : Addr) (H H' : Hp) (p : Nat) (ws : List Nat) (x : Addr) : Prop :=
  (∃ dx l, H l = none ∧ l ≠ x ∧ H' x = some (.ins CP dx [("where", .ref l)]) ∧ H' l = some (.lst (vI (Pk.wh p ws))) ∧ ∀ w ∈ ws, ¬ p < w + Pk.cnt ws w) ∨
  (∃ dx w, H' x = some (.ins CC dx [("place", .int ((w : Nat) : Int))]) ∧ w ∈ ws ∧ p < w + Pk.cnt ws w)
def spParked (CP CC : Addr) : Sp := fun vs H Q _ => ∃ (p : Nat) (a : Addr) (ws : List Nat), vs = [.int (p : Int), .ref a] ∧ H a = some (.lst (vI ws)) ∧ (∀ w ∈ ws, w < p) ∧ 1 ≤ p ∧ p ≤ 1000000 ∧ ws.length ≤ 63 ∧
  ∀ (x : Addr) (H' : Hp), H x = none → Same H H' → AnsAt CP CC H H' p ws x → Q (.ref x) H'
theorem scParked : FnScope ["places", "wishes", "place"] ["places", "wishes"] (defScope sParked) := ⟨rfl, rfl, rfl, by decide +kernel, rfl, by decide +kernel, by decide +kernel⟩
theorem d_parked {CP CC : Addr} (S : Src K mg "parked" sParked ["places", "wishes"]) (B : Bt K mg) (T : Ans K mg CP CC) (D1 : Def P w K mg base 3 "check_street" ["places", "wishes"] spChkStreet) (D2 : Def P w K mg base 1 "crowd_place" ["places", "wishes"] spCrowd)
    (D3 : Def P w K mg base 2 "stands" ["places", "wishes"] spStands) : Def P w K mg base 4 "parked" ["places", "wishes"] (spParked CP CC) := by
  refine S.ok scParked (fun vs H Q E h => ?_) (fun f cdv A outer s H vs Q E hr h => ?_)
  · obtain ⟨p, a, ws, rfl, _⟩ := h
    rfl
  · obtain ⟨p, a, ws, rfl, ha, hw, h1, h2, hlen, k⟩ := h
    have hr1 := hr.mono (show 1 ≤ 3 by decide)
    have hr2 := hr.mono (show 2 ≤ 3 by decide)
    refine ⟨_, pss_cons (ps_expr (pe_callD D1 hr (by rfl) (pa_cons (pv 0) (pa_cons (pv 1) pa_nil))))
      (pss_cons (ps_set (i := 2) scParked.nd rfl (Or.inl rfl) (pe_callD D2 hr1 (by rfl) (pa_cons (pv 0) (pa_cons (pv 1) pa_nil))))
      (pss_cons (ps_if (pt_cmp (pc_notN (pv 2))) (pss_one (ps_ret (pe_newC T hr2 (by rfl) (pa_cons (pv 2) pa_nil)))) pss_nil)
      (pss_one (ps_ret (pe_newP T B hr2 (by rfl) (pa_cons (pe_callD D3 hr2 (by rfl) (pa_cons (pv 0) (pa_cons (pv 1) pa_nil))) pa_nil)))))), ?_⟩
    refine ⟨_, rfl, _, rfl, p, a, ws, rfl, ha, hw, h1, h2, ?_⟩
    refine ⟨_, rfl, _, rfl, p, a, ws, rfl, ha, hlen, fun H1 sm => ⟨fun w hm hc => ?_, fun no => ?_⟩⟩
    · refine ⟨_, rfl, _, rfl, iteT ?_⟩
      refine ⟨_, rfl, fun x dx nx ndx nex => ?_⟩
      refine ⟨x, dx, _, rfl, upd_same, rfl, k x _ (sm.free nx) ?_ (.inr ⟨dx, w, upd_same, hm, hc⟩)⟩
      exact ((sm.next ndx).own (sm.free nx)).own (sm.free nx)
    · refine ⟨_, rfl, _, rfl, iteF ?_⟩
      refine ⟨_, rfl, _, rfl, p, a, ws, rfl, sm _ _ ha, by omega, fun l H2 nl hl sm2 => ?_⟩
      intro x dx nx ndx nex
      have sm3 : Same H H2 := sm.trans sm2
      have lx : l ≠ x := ne_of_none hl nx
      have ld : l ≠ dx := ne_of_none hl ndx
      refine ⟨x, dx, l, _, rfl, upd_same, SqL.of (by rw [upd_ne lx, upd_ne ld]; exact hl), fun l2 nl2 => ⟨rfl, ?_⟩⟩
      obtain ⟨n1, nl3⟩ := upd_none nl2
      obtain ⟨n2, nl4⟩ := upd_none nl3
      refine k x _ (sm3.free nx) ?_ (.inl ⟨dx, l2, sm3.free nl4, n1, upd_same, by rw [upd_ne n1, upd_same], no⟩)
      exact ((((sm3.next ndx).own (sm3.free nx))).own (sm3.free nl4)).own (sm3.free nx)
theorem small63' {n : Nat} (h : n ≤ 900) : n ≤ sizeLine := Nat.le_of_lt (small1000 (by omega))
theorem small63 {n : Nat} (h : n ≤ 63) : n ≤ sizeLine := Nat.le_of_lt (small1000 (by omega))
theorem small5000 {n : Nat} (h : n ≤ 5000) : n ≤ sizeLine := Nat.le_trans h (by decide)
def spByCars : Sp := fun vs H Q _ => ∃ (a : Addr) (m : Nat) (ws : List Nat), vs = [.ref a, .int (m : Int)] ∧ H a = some (.lst (vI ws)) ∧ (∀ w ∈ ws, w < ws.length + m) ∧ Q .non H
theorem scByCars : FnScope ["wishes", "more"] ["wishes", "more"] (defScope sByCars) := ⟨rfl, rfl, rfl, by decide +kernel, rfl, by decide +kernel, by decide +kernel⟩
theorem d_bycars (S : Src K mg "check_by_cars" sByCars ["wishes", "more"]) (D1 : Def P w K mg base 3 "is_list_below_its_length" ["things", "more"] (spListB K)) : Def P w K mg base 4 "check_by_cars" ["wishes", "more"] spByCars := by
  refine S.ok scByCars (fun vs H Q E h => ?_) (fun f cdv A outer s H vs Q E hr h => ?_)
  · obtain ⟨a, m, ws, rfl, _⟩ := h
    rfl
  · obtain ⟨a, m, ws, rfl, ha, hw, k⟩ := h
    refine ⟨_, pss_one (ps_if (pt_not (pt_val (pe_callD D1 hr (by rfl) (pa_cons (pv 0) (pa_cons (pv 1) pa_nil))))) pss_never pss_nil), ?_⟩
    refine ⟨_, rfl, _, rfl, .ref a, m, rfl, .lst ha, fun a' xs e1 e2 => ?_, fun no => absurd ha (no a _ rfl)⟩
    cases e1
    rw [ha] at e2
    cases e2
    refine ⟨anyI K H (toI ws), _, rfl, ?_⟩
    rw [goodI (by rw [vI_len]; exact hw)]
    exact iteF k
theorem toI_sum : ∀ ws : List Nat, (toI ws).sum = ((ws.sum : Nat) : Int)
  | [] => rfl
  | w :: ws => by
    show ((w : Nat) : Int) + (toI ws).sum = _
    rw [toI_sum ws, List.sum_cons]
    omega
theorem rwh_take {p : Nat} {ws : List Nat} {i w : Nat} (h : ws[i]? = some w) : Pk.rwh p (ws.take (i + 1)) = Pk.rwh p (ws.take i) ++ [Pk.rf (Pk.rwh p (ws.take i)) p w] := by
  rw [take_succ_at h]
  exact Pk.rwhs_snoc p w _ []
def HeldR (fs : List Nat) (D : Nat → Option Nat) : Prop := ∀ q, D q = none ↔ q ∉ fs
theorem HeldR.fst {p w : Nat} {fs : List Nat} {D : Nat → Option Nat} (h : HeldR fs D) (hl : fs.length < p) (hw : w < p) : ∃ m, Pk.Fst (Pk.nxr p) D w m ∧ Pk.it (Pk.nxr p) m w = Pk.rf fs p w := by
  have F := Pk.rf_is hl hw
  obtain ⟨m, e, hm⟩ := F.ex
  refine ⟨m, ⟨?_, fun j hj => ?_⟩, e.symm⟩
  · rw [← e]
    exact (h _).mpr F.fin
  · cases c : D (Pk.it (Pk.nxr p) j w) with
    | none => exact absurd (hm j hj) ((h _).mp c)
    | some n => rfl
def spAround : Sp := fun vs H Q _ => ∃ (p : Nat) (a : Addr) (ws : List Nat), vs = [.int (p : Int), .ref a] ∧ H a = some (.lst (vI ws)) ∧ ws.length ≤ 900 ∧ ws.length ≤ p ∧ (∀ w ∈ ws, w < p) ∧
  ∀ (l : Addr) (H' : Hp), H l = none → H' l = some (.lst (vI (Pk.rwh p ws))) → Same H H' → Q (.ref l) H'
theorem scAround : FnScope ["places", "wishes", "onward", "where", "wish", "place"] ["places", "wishes"] (defScope sAround) := ⟨rfl, rfl, rfl, by decide +kernel, rfl, by decide +kernel, by decide +kernel⟩
theorem d_around (S : Src K mg "stands_around" sAround ["places", "wishes"]) (D1 : Def P w K mg base 1 "first_free" ["onward", "wish"] spFree) : Def P w K mg base 2 "stands_around" ["places", "wishes"] spAround := by
  refine S.ok scAround (fun vs H Q E h => ?_) (fun f cdv A outer s H vs Q E hr h => ?_)
  · obtain ⟨p, a, ws, rfl, _⟩ := h
    rfl
  · obtain ⟨p, a, ws, rfl, ha, hlen, hlp, hwp, k⟩ := h
    have hu := hu_of hr
    refine ⟨_, pss_cons (ps_set (i := 2) scAround.nd rfl (Or.inl rfl) pe_dnewK)
      (pss_cons (ps_set (i := 3) scAround.nd rfl (Or.inl rfl) (pe_lst pa_nil))
      (pss_cons (ps_for PassesOwn.never rfl (pi_list (pv 1)) (pg_name (i := 4) scAround.nd rfl (Or.inl rfl))
        (pss_cons (ps_set (i := 5) scAround.nd rfl (Or.inl rfl) (pe_callD D1 hr (by rfl) (pa_cons (pv 2) (pa_cons (pv 4) pa_nil))))
        (pss_cons (ps_dput hu (pv 2) (pv 5) (pe_op op_mod (pe_op op_add (pv 5) pe_int) (pv 0)) rfl)
        (pss_one (ps_expr (pe_bm PySem.F.plainAttrs_list PySem.F.slot_list_append PySem.F.type_list_append mt_append (pv 3) (pa_cons (pv 5) pa_nil)))))))
      (pss_one (ps_ret (pv 3))))), ?_⟩
    intro d nd
    refine ⟨Nat.zero_le _, fun l nl => ?_⟩
    obtain ⟨nld, nl0⟩ := upd_none nl
    have s0 : Same H (upd (upd H d (.dK [])) l (.lst [])) := (Same.new nd).next nl
    refine ⟨_, rfl, a, rfl, ⟨_, SqL.of (s0 _ _ ha)⟩, for_list (K := K) (a := a) (xs := vI ws) (fun i σ H' => ∃ (v4 v5 : Option V) (kvs : List (Key × V)) (D : Nat → Option Nat), σ = [some (.int (p : Int)), some (.ref a), some (.ref d), some (.ref l), v4, v5] ∧ Same H H' ∧
      H' d = some (.dK kvs) ∧ H' l = some (.lst (vI (Pk.rwh p (ws.take i)))) ∧ DRel kvs D ∧ Pk.Good (Pk.nxr p) D ∧ HeldR (Pk.rwh p (ws.take i)) D ∧ kvs.length ≤ i) ?_ (fun i σ H' _ ⟨_, _, _, _, _, sm, _⟩ => SqL.of (sm _ _ ha)) ?_ ?_⟩
    · refine ⟨none, none, [], fun _ => none, rfl, s0, by rw [upd_ne (Ne.symm nld), upd_same], upd_same, DRel.nil, Pk.Good.none, fun q => ⟨fun _ z => ?_, fun _ => rfl⟩, Nat.zero_le _⟩
      have : q ∈ ([] : List Nat) := z
      cases this
    · rintro i x σ H' hx ⟨v4, v5, kvs, D, rfl, sm, hd, hl, rel, good, held, len⟩
      obtain ⟨w, hi, rfl⟩ := vI_at hx
      have hil : i < ws.length := (List.getElem?_eq_some_iff.mp hi).1
      have hwlt := hwp w (List.mem_of_getElem? hi)
      have flen : (Pk.rwh p (ws.take i)).length < p := by rw [Pk.rwh_len, List.length_take]; omega
      obtain ⟨m, fst, eff⟩ := held.fst flen hwlt
      refine ⟨_, rfl, _, rfl, Pk.nxr p, d, w, m, kvs, D, rfl, hd, rel, good, fst, by omega, fun kvs' D' rel' good' dom len' => ?_⟩
      rw [eff]
      have hl1 : (upd H' d (.dK kvs')) l = some (.lst (vI (Pk.rwh p (ws.take i)))) := by rw [upd_ne nld]; exact hl
      have sm1 : Same H (upd H' d (.dK kvs')) := sm.own nd
      have wl : (vI (Pk.rwh p (ws.take i))).length < sizeLine := by
        rw [vI_len, Pk.rwh_len]
        exact small1000 (by rw [List.length_take]; omega)
      have F := Pk.rf_is flen hwlt
      have free : D' (Pk.rf (Pk.rwh p (ws.take i)) p w) = none := (dom _).mpr ((held _).mpr F.fin)
      have ev : (((Pk.rf (Pk.rwh p (ws.take i)) p w : Nat) : Int) + 1) % (p : Int) = ((Pk.nxr p (Pk.rf (Pk.rwh p (ws.take i)) p w) : Nat) : Int) := by
        unfold Pk.nxr
        rw [Int.natCast_emod]
        rfl
      have put : DPut (upd H' d (.dK kvs')) d (.int ((Pk.rf (Pk.rwh p (ws.take i)) p w : Nat) : Int)) (.int ((((Pk.rf (Pk.rwh p (ws.take i)) p w : Nat) : Int) + 1) % (p : Int))) (upd (upd H' d (.dK kvs')) d (.dK (putK kvs' (Sum.inl ((Pk.rf (Pk.rwh p (ws.take i)) p w : Nat) : Int)) (.int ((Pk.nxr p (Pk.rf (Pk.rwh p (ws.take i)) p w) : Nat) : Int))))) := by
        rw [ev]
        exact DPut.k (k := Sum.inl ((Pk.rf (Pk.rwh p (ws.take i)) p w : Nat) : Int)) upd_same (small1000 (by omega))
      refine ⟨_, rfl, _, _, rfl, rfl, _, rfl, _, _, rfl, rfl, (by show (0 : Int) < (p : Int); omega), _, rfl, _, rfl, d, _, rfl, put, ?_⟩
      refine ⟨_, rfl, .inl ⟨rfl, _, SqL.of (by rw [upd_ne nld]; exact hl1)⟩, _, rfl, l, _, _, rfl, rfl, (by rw [upd_ne nld]; exact hl1), wl, ?_⟩
      refine ⟨_, _, putK kvs' (Sum.inl ((Pk.rf (Pk.rwh p (ws.take i)) p w : Nat) : Int)) (.int ((Pk.nxr p (Pk.rf (Pk.rwh p (ws.take i)) p w) : Nat) : Int)), Pk.put D' (Pk.rf (Pk.rwh p (ws.take i)) p w) (Pk.nxr p (Pk.rf (Pk.rwh p (ws.take i)) p w)), rfl, (sm1.own nd).own nl0, by rw [upd_ne (Ne.symm nld), upd_same], ?_, rel'.put _ _, good'.more free, fun q => ?_, ?_⟩
      · rw [upd_same, rwh_take hi, vI_snoc]
      · rw [rwh_take hi]
        unfold Pk.put
        by_cases c : q = Pk.rf (Pk.rwh p (ws.take i)) p w
        · rw [if_pos c]
          exact ⟨fun z => (by cases z), fun z => absurd (List.mem_append.mpr (.inr (by simp [c]))) z⟩
        · rw [if_neg c, dom, held]
          constructor
          · intro z y
            rcases List.mem_append.mp y with y | y
            · exact z y
            · exact c (by simpa using y)
          · intro z y
            exact z (List.mem_append.mpr (.inl y))
      · have := length_putK kvs' (Sum.inl ((Pk.rf (Pk.rwh p (ws.take i)) p w : Nat) : Int) : Key) (.int ((Pk.nxr p (Pk.rf (Pk.rwh p (ws.take i)) p w) : Nat) : Int))
        omega
    · rintro σ H' ⟨v4, v5, kvs, D, rfl, sm, hd, hl, _⟩
      rw [vI_len, List.take_length] at hl
      exact ⟨_, rfl, k l H' nl0 hl sm⟩
theorem turning_is {n : Nat} {ws : List Nat} (hl : ws.length = n) (hw : ∀ w ∈ ws, w < n + 1) : ∃ t : Nat, t < n + 1 ∧ Pk.FullL n (Pk.turnW (n + 1) t ws) ∧ (n : Int) - ((n : Int) * ((n : Int) + 1) / 2 - (((Pk.rwh (n + 1) ws).sum : Nat) : Int)) = (t : Int) := by
  have R := Pk.ring_wh (N := n + 1) hw (by omega)
  have e2 := Pk.snd_zip (Pk.rwh_len (n + 1) ws).symm
  have e1 := Pk.fst_zip (Pk.rwh_len (n + 1) ws).symm
  have nd := R.nd
  rw [e2] at nd
  have lt : ∀ q ∈ Pk.rwh (n + 1) ws, q < n + 1 := fun q hq => by
    rw [← e2] at hq
    obtain ⟨x, hx, e⟩ := List.mem_map.mp hq
    exact e ▸ (R.lt x hx).2
  obtain ⟨e, he, hne, hall⟩ := Pk.free_one nd lt (by rw [Pk.rwh_len, hl])
  have sm := Pk.sum_free nd he hne lt hall
  have sr := Pk.sum_range (n + 1)
  have fu := Pk.ring_full R (by rw [List.length_zip, Pk.rwh_len, hl]; exact Nat.min_self n) he (by rw [e2]; exact hne)
  rw [e1] at fu
  refine ⟨n - e, by omega, fu, ?_⟩
  have sr2 : ((n : Int) + 1) * (n : Int) = 2 * ((((List.range (n + 1)).sum : Nat)) : Int) := by
    have := congrArg (fun z : Nat => (z : Int)) sr
    simp only [Nat.add_sub_cancel] at this
    have e3 : (((n + 1) * n : Nat) : Int) = ((n : Int) + 1) * (n : Int) := by rw [Int.natCast_mul]; rfl
    rw [e3] at this
    rw [← this, Int.natCast_mul]
    rfl
  rw [Int.mul_comm, sr2]
  omega
def spTurning : Sp := fun vs H Q _ => ∃ (a : Addr) (ws : List Nat), vs = [.ref a] ∧ H a = some (.lst (vI ws)) ∧ ws.length ≤ 63 ∧ (∀ w ∈ ws, w < ws.length + 1) ∧
  ∀ (t : Nat) (H' : Hp), t < ws.length + 1 → Pk.FullL ws.length (Pk.turnW (ws.length + 1) t ws) → Same H H' → Q (.int (t : Int)) H'
theorem scTurning : FnScope ["wishes", "cars", "left_free"] ["wishes"] (defScope sTurning) := ⟨rfl, rfl, rfl, by decide +kernel, rfl, by decide +kernel, by decide +kernel⟩
theorem d_turning (S : Src K mg "turning" sTurning ["wishes"]) (B : Bt K mg) (D1 : Def P w K mg base 4 "check_by_cars" ["wishes", "more"] spByCars) (D2 : Def P w K mg base 2 "stands_around" ["places", "wishes"] spAround) : Def P w K mg base 5 "turning" ["wishes"] spTurning := by
  refine S.ok scTurning (fun vs H Q E h => ?_) (fun f cdv A outer s H vs Q E hr h => ?_)
  · obtain ⟨a, ws, rfl, _⟩ := h
    rfl
  · obtain ⟨a, ws, rfl, ha, hlen, hw, k⟩ := h
    have hr2 := hr.mono (show 2 ≤ 4 by decide)
    refine ⟨_, pss_cons (ps_expr (pe_callD D1 hr (by rfl) (pa_cons (pv 0) (pa_cons pe_int pa_nil))))
      (pss_cons (ps_set (i := 1) scTurning.nd rfl (Or.inl rfl) (pe_callB call_len_seq (by rfl) B.len b_len (pa_cons (pv 0) pa_nil)))
      (pss_cons (ps_set (i := 2) scTurning.nd rfl (Or.inl rfl) (pe_op op_sub (pe_op op_fdiv (pe_op op_mul (pv 1) (pe_op op_add (pv 1) pe_int)) pe_int) (pe_callB (call_sum rfl) (by rfl) B.sum b_sum (pa_cons (pe_callD D2 hr2 (by rfl) (pa_cons (pe_op op_add (pv 1) pe_int) (pa_cons (pv 0) pa_nil))) pa_nil))))
      (pss_one (ps_ret (pe_op op_sub (pv 1) (pv 2)))))), ?_⟩
    refine ⟨_, rfl, a, 1, ws, rfl, ha, hw, ?_⟩
    refine ⟨_, rfl, a, _, rfl, .inl (SqL.of ha), ?_⟩
    obtain ⟨t, t1, t2, t3⟩ := turning_is rfl hw
    refine ⟨_, rfl, _, rfl, _, _, rfl, rfl, _, _, rfl, rfl, .inl ?_, _, _, rfl, rfl, ⟨by decide, by decide⟩, _, rfl, _, _, rfl, rfl, _, rfl, ws.length + 1, a, ws, ?_, ha, by omega, by omega, hw, fun l H1 nl hl sm => ?_⟩
    · rw [vI_len]
      omega
    · rw [vI_len]
      rfl
    · refine ⟨l, _, rfl, SqL.of hl, _, _, rfl, rfl, ?_⟩
      refine ⟨_, rfl, _, rfl, _, _, rfl, rfl, ?_⟩
      have e : (((vI ws).length : Nat) : Int) - ((((vI ws).length : Nat) : Int) * ((((vI ws).length : Nat) : Int) + 1) / 2 - (toI (Pk.rwh (ws.length + 1) ws)).sum) = (t : Int) := by
        rw [vI_len, toI_sum]
        exact t3
      show Q (.int ((((vI ws).length : Nat) : Int) - ((((vI ws).length : Nat) : Int) * ((((vI ws).length : Nat) : Int) + 1) / 2 - (toI (Pk.rwh (ws.length + 1) ws)).sum))) H1
      rw [e]
      exact k t H1 t1 t2 sm
theorem turn_int {w N : Nat} {b : Int} (h : 0 < N) : (((w : Nat) : Int) + b) % (N : Int) = (((w + (b % (N : Int)).toNat) % N : Nat) : Int) := by
  have h1 := Int.emod_nonneg b (show (N : Int) ≠ 0 by omega)
  rw [Int.natCast_emod, Int.natCast_add, Int.toNat_of_nonneg h1, Int.add_emod_emod]
def spTurned : Sp := fun vs H Q _ => ∃ (a : Addr) (b : Int) (ws : List Nat), vs = [.ref a, .int b] ∧ H a = some (.lst (vI ws)) ∧ ws.length ≤ 63 ∧ (∀ w ∈ ws, w < ws.length + 1) ∧
  ∀ (l : Addr) (H' : Hp), H l = none → H' l = some (.lst (vI (Pk.turnW (ws.length + 1) (b % ((ws.length + 1 : Nat) : Int)).toNat ws))) → Same H H' → Q (.ref l) H'
theorem scTurned : FnScope ["wishes", "by"] ["wishes", "by"] (defScope sTurned) := ⟨rfl, rfl, rfl, by decide +kernel, rfl, by decide +kernel, by decide +kernel⟩
theorem turn_take {N t : Nat} {ws : List Nat} {i w : Nat} (h : ws[i]? = some w) : Pk.turnW N t (ws.take (i + 1)) = Pk.turnW N t (ws.take i) ++ [(w + t) % N] := by
  unfold Pk.turnW
  rw [take_succ_at h, List.map_append]
  rfl
theorem d_turned (S : Src K mg "turned" sTurned ["wishes", "by"]) (B : Bt K mg) (D0 : Def P w K mg base 1 "is_number" ["thing"] spIsNum) (D1 : Def P w K mg base 4 "check_by_cars" ["wishes", "more"] spByCars) : Def P w K mg base 5 "turned" ["wishes", "by"] spTurned := by
  refine S.ok scTurned (fun vs H Q E h => ?_) (fun f cdv A outer s H vs Q E hr h => ?_)
  · obtain ⟨a, b, ws, rfl, _⟩ := h
    rfl
  · obtain ⟨a, b, ws, rfl, ha, hlen, hw, k⟩ := h
    have hr1 := hr.mono (show 1 ≤ 4 by decide)
    refine ⟨_, pss_cons (ps_expr (pe_callD D1 hr (by rfl) (pa_cons (pv 0) (pa_cons pe_int pa_nil))))
      (pss_cons (ps_if (pt_not (pt_val (pe_callD D0 hr1 (by rfl) (pa_cons (pv 1) pa_nil)))) pss_never pss_nil)
      (pss_one (ps_ret (pe_comp (sc := defScope sTurned) ["wishes", "by"] ["wish", "by", "wishes"] [none, some 1, some 0] ⟨rfl, by decide +kernel, by decide +kernel, by decide +kernel, by decide +kernel, rfl, by decide +kernel⟩ rfl rfl rfl (pi_list (pv 0))
        (fun C s H fp nd => ⟨pg_name (i := 0) nd rfl (Or.inl rfl), pts_nil, pe_op op_mod (pe_op op_add (pv 0) (pv 1)) (pe_op op_add (pe_callB (r := fun xs H Q => ∃ p ys, xs = [.ref p] ∧ (SqL K H p ys ∨ SqT K H p ys) ∧ Q (.int ys.length) H) call_len_seq (by rfl) B.len b_len (pa_cons (pv 2) pa_nil)) pe_int)⟩))))), ?_⟩
    refine ⟨_, rfl, a, 1, ws, rfl, ha, hw, ?_⟩
    refine ⟨_, rfl, b, rfl, _, rfl, iteF ?_⟩
    refine ⟨_, rfl, a, rfl, ⟨_, SqL.of ha⟩, ?_⟩
    refine comp_list (xs := vI ws) (fun i => vI (Pk.turnW (ws.length + 1) (b % ((ws.length + 1 : Nat) : Int)).toNat (ws.take i))) (fun i σ H' => H' = H ∧ ∃ v, σ = [v, some (.int b), some (.ref a)]) (by rw [vI_len]; exact small63 hlen) (fun i hi => ?_) rfl ⟨rfl, none, rfl⟩ (fun i σ H' e => by rw [e.1]; exact SqL.of ha) ?_ ?_
    · rw [vI_len, Pk.turn_len, List.length_take]
      omega
    · rintro i y σ H' hy hi ⟨rfl, v, rfl⟩
      obtain ⟨w, hwi, rfl⟩ := vI_at hy
      refine g_name ?_
      refine t_true ?_
      refine iteT ?_
      refine ⟨_, rfl, _, rfl, _, _, rfl, rfl, _, rfl, a, _, rfl, .inl (SqL.of ha), _, _, rfl, rfl, _, _, rfl, rfl, ?_, ?_⟩
      · show (0 : Int) < (((vI ws).length : Nat) : Int) + 1
        omega
      · refine cnx hi ?_ ⟨rfl, _, rfl⟩
        rw [turn_take hwi, vI_snoc, ← turn_int (by omega)]
        show _ ++ [V.int ((((w : Nat) : Int) + b) % ((((vI ws).length : Nat) : Int) + 1))] = _
        rw [vI_len]
        rfl
    · rintro σ H' r ⟨rfl, v, rfl⟩ nr
      refine k r _ nr ?_ (Same.new nr)
      rw [upd_same, vI_len, List.take_length]
def spChkFull (CM : Addr) : Sp := fun vs H Q E => ∃ (a : Addr) (ws : List Nat), vs = [.ref a] ∧ H a = some (.lst (vI ws)) ∧ ws.length ≤ 63 ∧ (∀ w ∈ ws, w < ws.length) ∧ (Pk.FullL ws.length ws → ∀ H', Same H H' → Q .non H') ∧ (¬ Pk.FullL ws.length ws → ∀ H', Same H H' → E (.ref CM) none H')
theorem scChkFull : FnScope ["wishes"] ["wishes"] (defScope sChkFull) := ⟨rfl, rfl, rfl, by decide +kernel, rfl, by decide +kernel, by decide +kernel⟩
theorem d_chkfull {CM : Addr} (S : Src K mg "check_full" sChkFull ["wishes"]) (B : Bt K mg) (xm : XC K CM) (mm : mg "TooMany" = some (.ref CM)) (D1 : Def P w K mg base 4 "check_by_cars" ["wishes", "more"] spByCars) (D2 : Def P w K mg base 1 "crowd_place" ["places", "wishes"] spCrowd) :
    DefX P w K mg base 5 "check_full" ["wishes"] (spChkFull CM) := by
  refine S.okX scChkFull (fun vs H Q E h => ?_) (fun f cdv A outer s H vs Q E hr h => ?_)
  · obtain ⟨a, ws, rfl, _⟩ := h
    rfl
  · obtain ⟨a, ws, rfl, ha, hlen, hw, k1, k2⟩ := h
    have hr1 := hr.mono (show 1 ≤ 4 by decide)
    refine ⟨_, pss_cons (ps_expr (pe_callD D1 hr (by rfl) (pa_cons (pv 0) (pa_cons pe_int pa_nil))))
      (pss_one (ps_if (pt_cmp (pc_notN (pe_callD D2 hr1 (by rfl) (pa_cons (pe_callB call_len_seq (by rfl) B.len b_len (pa_cons (pv 0) pa_nil)) (pa_cons (pv 0) pa_nil))))) (pss_one (ps_raise xm rfl (by rfl) mm makes1 (pa_cons pe_str pa_nil))) pss_nil)), ?_⟩
    refine ⟨_, rfl, a, 0, ws, rfl, ha, fun w h => by have := hw w h; omega, ?_⟩
    refine ⟨_, rfl, a, _, rfl, .inl (SqL.of ha), _, rfl, ws.length, a, ws, by rw [vI_len]; rfl, ha, hlen, fun H' sm => ⟨fun w hm hc => ?_, fun hno => ?_⟩⟩
    · refine ⟨_, rfl, iteT ⟨by decide, k2 (fun fu => fu.nocrowd w hm hc) H' sm⟩⟩
    · exact ⟨_, rfl, iteF (k1 (Pk.full_of rfl hno) H' sm)⟩
def spDrives (CM : Addr) : Sp := fun vs H Q E => ∃ (a : Addr) (ws : List Nat), vs = [.ref a] ∧ H a = some (.lst (vI ws)) ∧ ws.length ≤ 63 ∧ (∀ w ∈ ws, w < ws.length) ∧
  (Pk.FullL ws.length ws → ∀ H', Same H H' → Q (.int ((ws.length : Int) * ((ws.length : Int) - 1) / 2 - ((ws.sum : Nat) : Int))) H') ∧ (¬ Pk.FullL ws.length ws → ∀ H', Same H H' → E (.ref CM) none H')
theorem scDrives : FnScope ["wishes", "cars"] ["wishes"] (defScope sDrives) := ⟨rfl, rfl, rfl, by decide +kernel, rfl, by decide +kernel, by decide +kernel⟩
theorem d_drives {CM : Addr} (S : Src K mg "drives" sDrives ["wishes"]) (B : Bt K mg) (D1 : DefX P w K mg base 5 "check_full" ["wishes"] (spChkFull CM)) : DefX P w K mg base 6 "drives" ["wishes"] (spDrives CM) := by
  refine S.okX scDrives (fun vs H Q E h => ?_) (fun f cdv A outer s H vs Q E hr h => ?_)
  · obtain ⟨a, ws, rfl, _⟩ := h
    rfl
  · obtain ⟨a, ws, rfl, ha, hlen, hw, k1, k2⟩ := h
    refine ⟨_, pss_cons (ps_expr (pe_callX D1 hr (by rfl) (pass1 fun _ _ _ q => q) (pa_cons (pv 0) pa_nil)))
      (pss_cons (ps_set (i := 1) scDrives.nd rfl (Or.inl rfl) (pe_callB call_len_seq (by rfl) B.len b_len (pa_cons (pv 0) pa_nil)))
      (pss_one (ps_ret (pe_op op_sub (pe_op op_fdiv (pe_op op_mul (pv 1) (pe_op op_sub (pv 1) pe_int)) pe_int) (pe_callB (call_sum rfl) (by rfl) B.sum b_sum (pa_cons (pv 0) pa_nil)))))), ?_⟩
    refine ⟨_, rfl, a, ws, rfl, ha, hlen, hw, fun fu H' sm => ?_, k2⟩
    refine ⟨_, rfl, a, _, rfl, .inl (SqL.of (sm _ _ ha)), ?_⟩
    rw [vI_len]
    refine ⟨_, rfl, _, rfl, _, _, rfl, rfl, _, _, rfl, rfl, .inl (by omega), _, _, rfl, rfl, ⟨by decide, by decide⟩, _, rfl, a, toI ws, rfl, SqL.of (sm _ _ ha), _, _, rfl, rfl, ?_⟩
    have q := k1 fu H' sm
    rw [← toI_sum] at q
    exact q
def cntL (N : Nat) (ws : List Nat) : List V := (List.range N).map fun q => V.int ((ws.count q : Nat) : Int)
theorem cntL_len (N : Nat) (ws : List Nat) : (cntL N ws).length = N := by
  unfold cntL
  rw [List.length_map, List.length_range]
theorem cntL_at {N q : Nat} {ws : List Nat} (h : q < N) : (cntL N ws)[q]? = some (V.int ((ws.count q : Nat) : Int)) := by
  unfold cntL
  rw [List.getElem?_map, List.getElem?_range h]
  rfl
theorem cntL_set {N w : Nat} {ws : List Nat} : (cntL N ws).set w (V.int (((ws.count w : Nat) : Int) + 1)) = cntL N (ws ++ [w]) := by
  refine List.ext_getElem? fun q => ?_
  rw [List.getElem?_set, cntL_len]
  by_cases c : q < N
  · rw [cntL_at c, cntL_at c, List.count_append]
    by_cases e : w = q
    · subst e
      rw [if_pos rfl, if_pos c]
      have : List.count w [w] = 1 := by simp
      rw [this]
      rfl
    · rw [if_neg e]
      have : List.count q [w] = 0 := by simp [e]
      rw [this]
      rfl
  · rw [List.getElem?_eq_none (by rw [cntL_len]; omega), List.getElem?_eq_none (by rw [cntL_len]; omega)]
    by_cases e : w = q
    · rw [if_pos e, if_neg (by omega)]
    · rw [if_neg e]
theorem cntL_nil (N : Nat) : cntL N [] = List.replicate N (V.int 0) := by
  refine List.ext_getElem? fun q => ?_
  by_cases c : q < N
  · rw [cntL_at c, List.getElem?_replicate, if_pos c]
    rfl
  · rw [List.getElem?_eq_none (by rw [cntL_len]; omega), List.getElem?_replicate, if_neg c]
theorem ixN_at {n j : Nat} (h : j < n) : ixN n ((j : Nat) : Int) = some j := by
  unfold ixN
  rw [if_pos (by omega), if_pos (by omega)]
  rfl
theorem int_at {ns : List Int} {i : Nat} {x : V} (h : (ns.map V.int)[i]? = some x) : ∃ n, ns[i]? = some n ∧ x = V.int n := by
  rw [List.getElem?_map] at h
  cases e : ns[i]? with
  | none => rw [e] at h; cases h
  | some z => rw [e] at h; exact ⟨z, rfl, (Option.some.inj h).symm⟩
structure Xs (K : PySem.W.Frag) (mg : Str → Option Value) (CS CW CM CT CP CD CX : Addr) : Prop where
  ms : mg "StreetError" = some (.ref CS)
  mw : mg "BadWishes" = some (.ref CW)
  mm : mg "TooMany" = some (.ref CM)
  mt : mg "BadTree" = some (.ref CT)
  mp : mg "BadPath" = some (.ref CP)
  md : mg "BadStanding" = some (.ref CD)
  mx : mg "BadText" = some (.ref CX)
  ve : mg "ValueError" = none
structure Xk (K : PySem.W.Frag) (C CS CW CM CT CP CD CX : Addr) (bw bm bt bp bd bx : Bool) : Prop where
  xc : XC K C
  es : PySem.W.exmOne K (.ref C) (.ref CS) = some true
  kv : PySem.W.kitOne K (.ref C) (.type "ValueError") = some true
  kw : PySem.W.kitOne K (.ref C) (.ref CW) = some bw
  km : PySem.W.kitOne K (.ref C) (.ref CM) = some bm
  kt : PySem.W.kitOne K (.ref C) (.ref CT) = some bt
  kp : PySem.W.kitOne K (.ref C) (.ref CP) = some bp
  kd : PySem.W.kitOne K (.ref C) (.ref CD) = some bd
  kx : PySem.W.kitOne K (.ref C) (.ref CX) = some bx
theorem b_ve : bootBuiltins "ValueError" = some (.type "ValueError") := by decide +kernel
def spRing (CM : Addr) : Sp := fun vs H Q E => ∃ (p : Nat) (a : Addr) (ws : List Nat), vs = [.int (p : Int), .ref a] ∧ H a = some (.lst (vI ws)) ∧ (∀ w ∈ ws, w < p) ∧ 1 ≤ p ∧ p ≤ 1000000 ∧ ws.length ≤ 900 ∧
  (ws.length ≤ p → ∀ (l : Addr) (H' : Hp), H l = none → H' l = some (.lst (vI (Pk.rwh p ws))) → Same H H' → Q (.ref l) H') ∧ (p < ws.length → E (.ref CM) none H)
theorem scRing : FnScope ["places", "wishes"] ["places", "wishes"] (defScope sRing) := ⟨rfl, rfl, rfl, by decide +kernel, rfl, by decide +kernel, by decide +kernel⟩
theorem d_ring {CM : Addr} (S : Src K mg "ring" sRing ["places", "wishes"]) (B : Bt K mg) (xm : XC K CM) (mm : mg "TooMany" = some (.ref CM)) (D1 : Def P w K mg base 3 "check_street" ["places", "wishes"] spChkStreet) (D2 : Def P w K mg base 2 "stands_around" ["places", "wishes"] spAround) :
    DefX P w K mg base 4 "ring" ["places", "wishes"] (spRing CM) := by
  refine S.okX scRing (fun vs H Q E h => ?_) (fun f cdv A outer s H vs Q E hr h => ?_)
  · obtain ⟨p, a, ws, rfl, _⟩ := h
    rfl
  · obtain ⟨p, a, ws, rfl, ha, hw, p1, p2, hlen, k1, k2⟩ := h
    have hr2 := hr.mono (show 2 ≤ 3 by decide)
    refine ⟨_, pss_cons (ps_expr (pe_callD D1 hr (by rfl) (pa_cons (pv 0) (pa_cons (pv 1) pa_nil))))
      (pss_cons (ps_if (pt_cmp (pc_gt (pe_callB call_len_seq (by rfl) B.len b_len (pa_cons (pv 1) pa_nil)) (pv 0))) (pss_one (ps_raise xm rfl (by rfl) mm makes1 (pa_cons pe_str pa_nil))) pss_nil)
      (pss_one (ps_ret (pe_callD D2 hr2 (by rfl) (pa_cons (pv 0) (pa_cons (pv 1) pa_nil)))))), ?_⟩
    refine ⟨_, rfl, _, rfl, p, a, ws, rfl, ha, hw, p1, p2, ?_⟩
    refine ⟨_, rfl, a, _, rfl, .inl (SqL.of ha), _, rfl, _, _, rfl, rfl, _, rfl, ?_⟩
    rw [vI_len]
    refine ite2d (fun c => ?_) (fun c => ?_)
    · exact ⟨by decide, k2 (by omega)⟩
    · exact ⟨_, rfl, _, rfl, p, a, ws, rfl, ha, hlen, by omega, hw, k1 (by omega)⟩
def tx (t : List Nat) : Str := ⟨t.toArray⟩
theorem tx_len (t : List Nat) : (tx t).length = t.length := by
  show t.toArray.size = t.length
  rw [List.size_toArray]
theorem tx_at {t : List Nat} {i c : Nat} (h : (tx t).cps[i]? = some c) : t[i]? = some c := by
  have h : t.toArray[i]? = some c := h
  rw [List.getElem?_toArray] at h
  exact h
theorem tx_size (t : List Nat) : (tx t).cps.size = t.length := tx_len t
theorem tx_of (z : Str) : tx z.cps.toList = z := by
  show (⟨z.cps.toList.toArray⟩ : Str) = z
  rw [Array.toArray_toList]
theorem tx_inj {a b : List Nat} (h : tx a = tx b) : a = b := by
  have : a.toArray = b.toArray := congrArg Str.cps h
  have := congrArg Array.toList this
  simpa using this
theorem tx_add (a b : List Nat) : tx a ++ tx b = tx (a ++ b) := by
  show (⟨a.toArray ++ b.toArray⟩ : Str) = ⟨(a ++ b).toArray⟩
  simp
theorem s_u : ("u" : Str) = tx [117] := by decide +kernel
theorem s_d : ("d" : Str) = tx [100] := by decide +kernel
theorem s_ud : ("ud" : Str) = tx [117, 100] := by decide +kernel
theorem s_e : ("" : Str) = tx [] := by decide +kernel
theorem one_eq {c d : Nat} : (V.str ⟨#[c]⟩ = V.str (tx [d])) ↔ c = d := by
  constructor
  · intro h
    have h : (⟨#[c]⟩ : Str) = ⟨#[d]⟩ := V.str.inj h
    have h : (#[c] : Array Nat) = #[d] := congrArg Str.cps h
    have := congrArg (fun a : Array Nat => a[0]?) h
    simpa using this
  · rintro rfl
    rfl
theorem tx_rep (c : Nat) : ∀ n : Nat, repS (tx [c]) n = tx (List.replicate n c) := by
  intro n
  have key : ∀ (n : Nat) (b : Array Nat), (List.replicate n (tx [c]).cps).foldl (· ++ ·) b = b ++ (List.replicate n c).toArray := by
    intro n
    induction n with
    | zero => intro b; simp
    | succ n ih =>
      intro b
      rw [List.replicate_succ, List.foldl_cons, ih, List.replicate_succ]
      refine Array.toList_inj.mp ?_
      simp [tx]
  show (⟨(List.replicate n (tx [c]).cps).foldl (· ++ ·) #[]⟩ : Str) = ⟨(List.replicate n c).toArray⟩
  rw [key]
  simp
theorem tx_join (ls : List (List Nat)) : Txt.join (tx []) (ls.map tx) = tx ls.flatten := by
  have key : ∀ (ls : List (List Nat)) (b : Array Nat), (ls.map tx).foldl (fun acc p => acc ++ (tx []).cps ++ p.cps) b = b ++ ls.flatten.toArray := by
    intro ls
    induction ls with
    | nil => intro b; simp
    | cons l ls ih =>
      intro b
      rw [List.map_cons, List.foldl_cons, ih]
      show (b ++ #[] ++ l.toArray) ++ _ = _
      simp
  show (⟨((ls.map tx).drop 1).foldl (fun acc p => acc ++ (tx []).cps ++ p.cps) ((ls.map tx).headD Str.empty).cps⟩ : Str) = _
  cases ls with
  | nil => rfl
  | cons l ls =>
    show (⟨(ls.map tx).foldl (fun acc p => acc ++ (tx []).cps ++ p.cps) l.toArray⟩ : Str) = _
    rw [key]
    show (⟨l.toArray ++ ls.flatten.toArray⟩ : Str) = ⟨(l :: ls).flatten.toArray⟩
    simp
theorem in_ud (c : Nat) : (!(!(Builtin.Str.occurrences (tx [117, 100]) ⟨#[c]⟩ 0 (tx [117, 100]).length 1).isEmpty)) = !decide (c = 117 ∨ c = 100) := by
  rw [PySem.StrLaws.found_one]
  congr 1
  rw [Bool.eq_iff_iff]
  simp [tx]
structure Bt2 (mg : Str → Option Value) : Prop where
  zip : mg "zip" = none
  str : mg "str" = none
theorem b_str : bootBuiltins "str" = some (.type "str") := by decide +kernel
theorem Any.isS {K : PySem.W.Frag} {H : Hp} {v : V} (h : Any K H v) : ∃ t b, TyOf K H v t ∧ PySem.W.kitOne K t (.type "str") = some b ∧ (b = true → ∃ z, v = .str z) ∧ (b = false → ∀ z, v ≠ .str z) := by
  cases h with
  | non => exact ⟨_, false, .non, kit_b (by decide +kernel) (by decide +kernel) (by rfl), (fun z => by cases z), fun _ _ z => by cases z⟩
  | bl b => exact ⟨_, false, .bl b, kit_b (by decide +kernel) (by decide +kernel) (by rfl), (fun z => by cases z), fun _ _ z => by cases z⟩
  | int i => exact ⟨_, false, .int i, kit_b (by decide +kernel) (by decide +kernel) (by rfl), (fun z => by cases z), fun _ _ z => by cases z⟩
  | str x => exact ⟨_, true, .str x, kit_same _ _, (fun _ => ⟨x, rfl⟩), fun z => by cases z⟩
  | lst e => exact ⟨_, false, .lst e, kit_b (by decide +kernel) (by decide +kernel) (by rfl), (fun z => by cases z), fun _ _ z => by cases z⟩
  | tup e => exact ⟨_, false, .tup e, kit_b (by decide +kernel) (by decide +kernel) (by rfl), (fun z => by cases z), fun _ _ z => by cases z⟩
theorem flat_rep (x : V) (n : Nat) : (List.replicate n [x]).flatten = List.replicate n x := by
  induction n with
  | zero => rfl
  | succ n ih => rw [List.replicate_succ, List.flatten_cons, ih, List.replicate_succ]; rfl
def pcs (n : Nat) (ws : List Nat) : List (List Nat) := (List.range n).map fun q => List.replicate (ws.count q) 117 ++ [100]
theorem pcs_take {n i : Nat} {ws : List Nat} (h : i < n) : pcs (i + 1) ws = pcs i ws ++ [List.replicate (ws.count i) 117 ++ [100]] := by
  unfold pcs
  rw [List.range_succ, List.map_append]
  rfl
def vT (ls : List (List Nat)) : List V := ls.map fun l => V.str (tx l)
theorem vT_eq (ls : List (List Nat)) : vT ls = (ls.map tx).map V.str := by
  unfold vT
  rw [List.map_map]
  rfl
theorem pcs_len (n : Nat) (ws : List Nat) : (pcs n ws).length = n := by unfold pcs; rw [List.length_map, List.length_range]
theorem pcs_sum {n : Nat} {ws : List Nat} (hn : n ≤ 63) (hl : ws.length ≤ 63) : (((pcs n ws).map tx).map (·.length)).sum + ((pcs n ws).map tx).length * (tx []).length ≤ 16777216 := by
  have key : ∀ n : Nat, (((pcs n ws).map tx).map (·.length)).sum ≤ n * 64 := by
    intro n
    induction n with
    | zero => exact Nat.le_refl _
    | succ n ih =>
      rw [pcs_take (n := n + 1) (Nat.lt_succ_self _), List.map_append, List.map_append, List.sum_append]
      have c := List.count_le_length (a := n) (l := ws)
      have : ((([List.replicate (ws.count n) 117 ++ [100]] : List (List Nat)).map tx).map (·.length)).sum = ws.count n + 1 := by
        simp only [List.map_cons, List.map_nil, List.sum_cons, List.sum_nil, tx_len, List.length_append, List.length_replicate, List.length_singleton]
        omega
      rw [this]
      omega
  have k := key n
  rw [List.length_map, pcs_len, tx_len]
  simp only [List.length_nil, Nat.mul_zero]
  omega
def spPath (CM : Addr) : Sp := fun vs H Q E => ∃ (a : Addr) (ws : List Nat), vs = [.ref a] ∧ H a = some (.lst (vI ws)) ∧ ws.length ≤ 63 ∧ (∀ w ∈ ws, w < ws.length) ∧
  (Pk.FullL ws.length ws → ∀ H', Same H H' → Q (.str (tx (Pk.pth ws.length ws))) H') ∧ (¬ Pk.FullL ws.length ws → ∀ H', Same H H' → E (.ref CM) none H')
theorem scPath : FnScope ["wishes", "cars_at", "wish"] ["wishes"] (defScope sPath) := ⟨rfl, rfl, rfl, by decide +kernel, rfl, by decide +kernel, by decide +kernel⟩
theorem d_path {CM : Addr} (S : Src K mg "path" sPath ["wishes"]) (B : Bt K mg) (D1 : DefX P w K mg base 5 "check_full" ["wishes"] (spChkFull CM)) : DefX P w K mg base 6 "path" ["wishes"] (spPath CM) := by
  refine S.okL scPath (fun vs H Q E h => ?_) (fun f cdv A outer s H vs Q E hr h => ?_)
  · obtain ⟨a, ws, rfl, _⟩ := h
    rfl
  · obtain ⟨a, ws, rfl, ha, hlen, hw, k1, k2⟩ := h
    refine ⟨_, fun own => pss_cons (ps_expr (pe_callX D1 hr (by rfl) (passL fun _ _ _ q => q) (pa_cons (pv 0) pa_nil)))
      (pss_cons (ps_set (i := 1) scPath.nd rfl (Or.inl rfl) (pe_op op_rep (pe_lst (pa_cons pe_int pa_nil)) (pe_callB call_len_seq (by rfl) B.len b_len (pa_cons (pv 0) pa_nil))))
      (pss_cons (ps_for own rfl (pi_list (pv 0)) (pg_name (i := 2) scPath.nd rfl (Or.inl rfl)) (pss_one (ps_augS (pv 1) (pv 2) get_list pe_int ip_add set_list)))
      (pss_one (ps_ret (pe_bm PySem.F.plainAttrs_str PySem.F.slot_str_join PySem.F.type_str_join mt_join pe_str (pa_cons (pe_comp (sc := defScope sPath) ["wishes", "cars_at", "wish"] ["cars"] [none]
        ⟨rfl, by decide +kernel, by decide +kernel, by decide +kernel, by decide +kernel, rfl, by decide +kernel⟩ rfl rfl rfl (pi_list (pv 1)) (fun C s H fp nd => ⟨pg_name (i := 0) nd rfl (Or.inl rfl), pts_nil, pe_op op_add_str (pe_op op_mulS pe_str (pv 0)) pe_str⟩)) pa_nil)))))), ?_⟩
    refine ⟨_, rfl, a, ws, rfl, ha, hlen, hw, fun fu H1 sm => ?_, k2⟩
    have ha1 := sm _ _ ha
    refine ⟨by decide, fun l0 nl0 => ?_⟩
    have s1 : Same H (upd H1 l0 (.lst [.int 0])) := sm.next nl0
    refine ⟨_, rfl, a, _, rfl, .inl (SqL.of (s1 _ _ ha)), ?_⟩
    rw [vI_len]
    refine ⟨l0, _, _, rfl, rfl, upd_same, by omega, by omega, ?_, fun l nl => ?_⟩
    · rw [Int.toNat_natCast]
      exact small63' (by simp only [List.length_singleton]; omega)
    rw [Int.toNat_natCast, flat_rep, ← cntL_nil]
    have s2 := s1.next (o := .lst (cntL ws.length [])) nl
    have nlH : H l = none := s1.free nl
    refine ⟨_, rfl, a, rfl, ⟨_, SqL.of (s2 _ _ ha)⟩, for_list (K := K) (a := a) (xs := vI ws) (fun i σ H3 => ∃ v2 : Option V, σ = [some (.ref a), some (.ref l), v2] ∧ Same H H3 ∧ H3 l = some (.lst (cntL ws.length (ws.take i)))) ⟨none, rfl, s2, upd_same⟩ (fun i σ H3 _ ⟨_, _, sm, _⟩ => SqL.of (sm _ _ ha)) ?_ ?_⟩
    · rintro i x σ H3 hx ⟨v2, rfl, sm3, hl⟩
      obtain ⟨w, hi, rfl⟩ := vI_at hx
      have hwl := hw w (List.mem_of_getElem? hi)
      refine ⟨_, rfl, _, rfl, l, _, w, _, rfl, rfl, SqL.of hl, cntL_at hwl, _, _, rfl, rfl, l, _, _, w, rfl, rfl, hl, by rw [cntL_len]; exact ixN_at hwl, ?_⟩
      refine ⟨_, rfl, sm3.own nlH, ?_⟩
      rw [upd_same, take_succ_at hi, ← cntL_set]
    · rintro σ H3 ⟨v2, rfl, sm3, hl⟩
      rw [vI_len, List.take_length] at hl
      refine ⟨rfl, _, rfl, l, rfl, ⟨_, SqL.of hl⟩, ?_⟩
      refine comp_list (xs := cntL ws.length ws) (fun i => vT (pcs i ws)) (fun i σ H4 => H4 = H3 ∧ σ.length = 1) (by rw [cntL_len]; exact small63 hlen) (fun i _ => by unfold vT; rw [List.length_map, pcs_len]; exact Nat.le_refl _) rfl ⟨rfl, rfl⟩ (fun i σ H4 e => by rw [e.1]; exact SqL.of hl) ?_ ?_
      · rintro i y σ H4 hy hi ⟨rfl, hσ⟩
        rw [cntL_len] at hi
        rw [cntL_at hi] at hy
        cases hy
        match σ, hσ with
        | [v], _ =>
          have c := List.count_le_length (a := i) (l := ws)
          refine g_name ?_
          refine t_true ?_
          refine iteT ?_
          refine ⟨_, rfl, _, _, rfl, rfl, ?_, by omega, ?_⟩
          · rw [s_u, tx_len]; decide
          rw [s_u, s_d, tx_rep]
          refine ⟨_, _, rfl, rfl, ?_, cnx (by rw [cntL_len]; exact hi) ?_ ⟨rfl, rfl⟩⟩
          · rw [tx_len, tx_len, List.length_replicate]
            exact small63' (by simp only [List.length_singleton]; omega)
          · rw [tx_add]
            show vT (pcs i ws) ++ [V.str (tx (List.replicate (ws.count i) 117 ++ [100]))] = vT (pcs (i + 1) ws)
            unfold vT
            rw [pcs_take hi, List.map_append]
            rfl
      · rintro σ H4 q ⟨rfl, _⟩ nq
        rw [cntL_len]
        refine ⟨_, q, (pcs ws.length ws).map tx, rfl, rfl, SqL.of (by rw [upd_same, vT_eq]), ?_, ?_⟩
        · rw [s_e]
          exact pcs_sum hlen hlen
        · rw [s_e, tx_join]
          exact k1 fu _ (sm3.next nq)
def spHeights (K : PySem.W.Frag) (CP : Addr) : Sp := fun vs H Q E => ∃ v, vs = [v] ∧ Any K H v ∧ (∀ t, v = .str (tx t) → t.length ≤ 2000 ∧
    (Pk.goodP t = true → ∀ (l : Addr) (H' : Hp), H l = none → H' l = some (.lst (vI (Pk.wk t).hs)) → Same H H' → Q (.ref l) H') ∧ (Pk.goodP t = false → ∀ H', Same H H' → E (.ref CP) none H')) ∧ ((∀ z, v ≠ .str z) → E (.ref CP) none H)
theorem scHeights : FnScope ["text", "height", "told", "sign"] ["text"] (defScope sHeights) := ⟨rfl, rfl, rfl, by decide +kernel, rfl, by decide +kernel, by decide +kernel⟩
theorem d_heights {CP : Addr} (S : Src K mg "heights" sHeights ["text"]) (B : Bt K mg) (B2 : Bt2 mg) (xp : XC K CP) (mp : mg "BadPath" = some (.ref CP)) : DefX P w K mg base 1 "heights" ["text"] (spHeights K CP) := by
  refine S.okL scHeights (fun vs H Q E h => ?_) (fun f cdv A outer s H vs Q E hr h => ?_)
  · obtain ⟨v, rfl, _⟩ := h
    rfl
  · obtain ⟨v, rfl, hv, k1, k2⟩ := h
    obtain ⟨ty, b, hty, e1, e2, e3⟩ := hv.isS
    refine ⟨_, fun own => pss_cons (ps_if (pt_not (pt_val (pe_callB call_isi (by rfl) B.isi b_isi (pa_cons (pv 0) (pa_cons (pe_bltn (v := .ty "str") (by rfl) B2.str b_str rfl) pa_nil))))) (pss_one (ps_raise xp rfl (by rfl) mp makesL (pa_cons pe_str pa_nil))) pss_nil)
      (pss_cons (ps_set (i := 1) scHeights.nd rfl (Or.inl rfl) pe_int)
      (pss_cons (ps_set (i := 2) scHeights.nd rfl (Or.inl rfl) (pe_lst pa_nil))
      (pss_cons (ps_for own rfl (pi_str (pv 0)) (pg_name (i := 3) scHeights.nd rfl (Or.inl rfl))
        (pss_cons (ps_if (pt_cmpR op_notIn_str (pv 3) pe_str (by with_unfolding_all rfl)) (pss_one (ps_raise xp rfl (by rfl) mp makesL (pa_cons pe_str pa_nil))) pss_nil)
        (pss_cons (ps_aug (i := 1) scHeights.nd rfl (Or.inl rfl) (pe_ifExp (pt_cmpR op_eq (pv 3) pe_str (nomark _)) pe_int (pe_un un_neg pe_int)) ip_add)
        (pss_cons (ps_if (pt_cmp (pc_lt (pv 1) pe_int)) (pss_one (ps_raise xp rfl (by rfl) mp makesL (pa_cons pe_str pa_nil))) pss_nil)
        (pss_one (ps_expr (pe_bm PySem.F.plainAttrs_list PySem.F.slot_list_append PySem.F.type_list_append mt_append (pv 2) (pa_cons (pv 1) pa_nil))))))))
      (pss_cons (ps_if (pt_cmp (pc_gt (pv 1) pe_int)) (pss_one (ps_raise xp rfl (by rfl) mp makesL (pa_cons pe_str pa_nil))) pss_nil)
      (pss_one (ps_ret (pv 2))))))), ?_⟩
    refine ⟨_, rfl, _, _, _, _, _, rfl, hty, .inl ⟨_, rfl, rfl⟩, e1, _, rfl, ?_⟩
    cases b with
    | false => exact iteT ⟨by decide, k2 (e3 rfl)⟩
    | true =>
      obtain ⟨z, rfl⟩ := e2 rfl
      obtain ⟨t, rfl⟩ : ∃ t, z = tx t := ⟨z.cps.toList, (tx_of z).symm⟩
      obtain ⟨hlen, g1, g2⟩ := k1 t rfl
      refine iteF ?_
      refine ⟨by decide, fun l nl => ?_⟩
      refine ⟨_, rfl, _, rfl, for_str (z := tx t) (fun i σ H' => ∃ v3 : Option V, σ = [some (.str (tx t)), some (.int (((Pk.wk (t.take i)).h : Nat) : Int)), some (.ref l), v3] ∧ (Pk.wk (t.take i)).ok = true ∧ Same H H' ∧ H' l = some (.lst (vI (Pk.wk (t.take i)).hs))) ⟨none, rfl, rfl, Same.new nl, upd_same⟩ ?_ ?_⟩
      · rintro i c σ H' hc ⟨v3, rfl, ok, sm, hl⟩
        have hc := tx_at hc
        have hi : i < t.length := (List.getElem?_eq_some_iff.mp hc).1
        have ts := Pk.take_snoc hc
        have bad : (Pk.wk (t.take (i + 1))).ok = false → (1 : Nat) ≤ sizeLine ∧ E (.ref CP) none H' := fun e => ⟨by decide, g2 (Pk.goodP_no (.inl (Pk.wk_bad e))) _ sm⟩
        rw [ts, Pk.wk_snoc] at bad ⊢
        refine ⟨_, rfl, _, _, rfl, rfl, _, rfl, ?_⟩
        rw [s_ud, in_ud]
        by_cases cu : c = 117
        · subst cu
          rw [decide_eq_true (Or.inl rfl)]
          refine iteF ?_
          refine ⟨_, rfl, _, rfl, rfl, _, rfl, ?_⟩
          rw [s_u, decide_eq_true (one_eq.mpr rfl)]
          refine iteT ?_
          refine ⟨_, _, rfl, rfl, ?_⟩
          refine ⟨_, rfl, _, _, rfl, rfl, _, rfl, iteFd (by dsimp only; omega) ?_⟩
          rw [Pk.stp_up ok]
          refine ⟨_, rfl, .inl ⟨rfl, _, SqL.of hl⟩, _, rfl, l, _, _, rfl, rfl, hl, ?_, ?_⟩
          · rw [vI_len, (Pk.wok ok).hl, List.length_take]
            exact Nat.lt_of_lt_of_le (show min i t.length < 5000 by omega) (by decide)
          · refine ⟨some (.str ⟨#[117]⟩), ?_, ok, sm.own nl, ?_⟩
            · show _ = [some (V.str (tx t)), some (V.int ((((Pk.wk (t.take i)).h + 1 : Nat)) : Int)), some (V.ref l), _]
              rw [Int.natCast_add]
              rfl
            · rw [upd_same]
              show _ = some (HO.lst (vI ((Pk.wk (t.take i)).hs ++ [(Pk.wk (t.take i)).h + 1])))
              rw [vI_snoc, Int.natCast_add]
              rfl
        · by_cases cd : c = 100
          · subst cd
            rw [decide_eq_true (Or.inr rfl)]
            refine iteF ?_
            refine ⟨_, rfl, _, rfl, rfl, _, rfl, ?_⟩
            rw [s_u, decide_eq_false (fun z => cu (one_eq.mp z))]
            refine iteF ?_
            refine ⟨_, rfl, _, _, rfl, rfl, ?_⟩
            by_cases h0 : 0 < (Pk.wk (t.take i)).h
            · refine ⟨_, rfl, _, _, rfl, rfl, _, rfl, iteFd (by dsimp only; omega) ?_⟩
              rw [Pk.stp_down ok h0]
              have e0 : (((Pk.wk (t.take i)).h : Nat) : Int) + -1 = ((((Pk.wk (t.take i)).h - 1 : Nat)) : Int) := by omega
              refine ⟨_, rfl, .inl ⟨rfl, _, SqL.of hl⟩, _, rfl, l, _, _, rfl, rfl, hl, ?_, ?_⟩
              · rw [vI_len, (Pk.wok ok).hl, List.length_take]
                exact Nat.lt_of_lt_of_le (show min i t.length < 5000 by omega) (by decide)
              · refine ⟨some (.str ⟨#[100]⟩), ?_, ok, sm.own nl, ?_⟩
                · show _ = [some (V.str (tx t)), some (V.int ((((Pk.wk (t.take i)).h - 1 : Nat)) : Int)), some (V.ref l), _]
                  rw [← e0]
                  rfl
                · rw [upd_same]
                  show _ = some (HO.lst (vI ((Pk.wk (t.take i)).hs ++ [(Pk.wk (t.take i)).h - 1])))
                  rw [vI_snoc, ← e0]
            · refine ⟨_, rfl, _, _, rfl, rfl, _, rfl, iteTd (by dsimp only; omega) ?_⟩
              exact bad (Pk.stp_bad cu fun z => h0 z.2)
          · rw [decide_eq_false (fun z => z.elim cu cd)]
            exact iteT (bad (Pk.stp_bad cu fun z => cd z.1))
      · rintro σ H' ⟨v3, rfl, ok, sm, hl⟩
        rw [tx_size, List.take_length] at ok hl ⊢
        refine ⟨_, rfl, _, _, rfl, rfl, _, rfl, ite2d (fun c => ?_) (fun c => ?_)⟩
        · exact ⟨by decide, g2 (Pk.goodP_no (.inr (by omega))) _ sm⟩
        · exact ⟨_, rfl, g1 (Pk.goodP_mk ok (by omega)) l H' nl hl sm⟩
def spBeneath (K : PySem.W.Frag) (CP : Addr) : Sp := fun vs H Q E => ∃ v, vs = [v] ∧ Any K H v ∧ (∀ t, v = .str (tx t) → t.length ≤ 2000 ∧
    (Pk.goodP t = true → ∀ H', Same H H' → Q (.int (((Pk.wk t).b : Nat) : Int)) H') ∧ (Pk.goodP t = false → ∀ H', Same H H' → E (.ref CP) none H')) ∧ ((∀ z, v ≠ .str z) → E (.ref CP) none H)
theorem scBeneath : FnScope ["text"] ["text"] (defScope sBeneath) := ⟨rfl, rfl, rfl, by decide +kernel, rfl, by decide +kernel, by decide +kernel⟩
theorem d_beneath {CP : Addr} (S : Src K mg "beneath" sBeneath ["text"]) (B : Bt K mg) (B2 : Bt2 mg) (D1 : DefX P w K mg base 1 "heights" ["text"] (spHeights K CP)) : DefX P w K mg base 2 "beneath" ["text"] (spBeneath K CP) := by
  refine S.okL scBeneath (fun vs H Q E h => ?_) (fun f cdv A outer s H vs Q E hr h => ?_)
  · obtain ⟨v, rfl, _⟩ := h
    rfl
  · obtain ⟨v, rfl, hv, k1, k2⟩ := h
    refine ⟨_, fun own => pss_one (ps_ret (pe_callB (call_sum rfl) (by rfl) B.sum b_sum (pa_cons (pe_comp (sc := defScope sBeneath) ["text"] ["sign", "height"] [none, none] ⟨rfl, by decide +kernel, by decide +kernel, by decide +kernel, by decide +kernel, rfl, by decide +kernel⟩ rfl rfl rfl
      (pi_zip (by rfl) B2.zip (pa_cons (pv 0) (pa_cons (pe_callX D1 hr (by rfl) (passL fun _ _ _ q => q) (pa_cons (pv 0) pa_nil)) pa_nil)))
      (fun C s H fp nd => ⟨pg_tupK (K := K) (n := 2) rfl rfl (pgs_cons (pg_name (i := 0) nd rfl (Or.inl rfl)) (pgs_cons (pg_name (i := 1) nd rfl (Or.inl rfl)) pgs_nil)), pts_one (pt_cmpR op_eq (pv 0) pe_str (nomark _)), pv 1⟩)) pa_nil))), ?_⟩
    refine ⟨_, rfl, _, rfl, _, rfl, hv, fun t e => ?_, fun no => k2 no⟩
    subst e
    obtain ⟨hlen, g1, g2⟩ := k1 t rfl
    refine ⟨hlen, fun gd l H1 nl hl sm => ?_, g2⟩
    obtain ⟨ok, h0⟩ := Pk.goodP_ok gd
    have W := Pk.wok ok
    refine ⟨.str (tx t), .lst l, t.length, _, _, rfl, rfl, ⟨rfl, _, SqL.of hl⟩, ?_⟩
    refine comp_zip (fun i => vI (Pk.wk (t.take i)).ds) (fun i σ H2 => Same H1 H2 ∧ σ.length = 2) (small5000 (by omega)) (fun i hi => ?_) rfl ⟨Same.refl _, rfl⟩ (fun i σ H2 e => ⟨tx_size t, _, SqL.of (e.1 _ _ hl), by rw [vI_len]; exact W.hl⟩) ?_ ?_
    · have := Pk.ds_len (t.take i)
      rw [List.length_take] at this
      rw [vI_len]
      omega
    · rintro i x y σ H2 p hi ⟨c, hc, rfl⟩ hy ⟨sm2, hσ⟩ np
      have hc := tx_at hc
      have hy := hy _ (SqL.of (sm2 _ _ hl))
      obtain ⟨h, hh, rfl⟩ := vI_at hy
      rw [Pk.wk_hs hi ok] at hh
      cases hh
      match σ, hσ with
      | [v0, v1], _ =>
        refine ⟨p, _, rfl, SqT.of upd_same, rfl, _, _, rfl, ?_⟩
        refine ⟨_, _, rfl, ?_⟩
        refine ⟨rfl, ?_⟩
        refine ⟨_, rfl, rfl, _, rfl, ?_⟩
        rw [s_d]
        rcases Pk.wk_next ok hc with ⟨rfl, e1, _, _⟩ | ⟨rfl, e1, _, _⟩
        · rw [decide_eq_false (fun z => absurd (one_eq.mp z) (by decide))]
          refine iteF (cnx hi ?_ ⟨sm2.next np, rfl⟩)
          show _ = vI _
          rw [e1]
        · rw [decide_eq_true (one_eq.mpr rfl)]
          refine iteT ⟨_, rfl, cnx hi ?_ ⟨sm2.next np, rfl⟩⟩
          show _ = vI _
          rw [e1, vI_snoc]
    · rintro σ H2 q ⟨sm2, _⟩ nq
      rw [List.take_length]
      refine ⟨q, toI (Pk.wk t).ds, rfl, SqL.of upd_same, ?_⟩
      rw [toI_sum, ← W.bs]
      exact g1 gd _ (sm.trans (sm2.next nq))
def spRising (K : PySem.W.Frag) (CP : Addr) : Sp := fun vs H Q E => ∃ v, vs = [v] ∧ Any K H v ∧ (∀ t, v = .str (tx t) → t.length ≤ 2000 ∧
    (Pk.goodP t = true → ∀ (l : Addr) (H' : Hp), H l = none → H' l = some (.lst (vI (Pk.wk t).ws)) → Same H H' → Q (.ref l) H') ∧ (Pk.goodP t = false → ∀ H', Same H H' → E (.ref CP) none H')) ∧ ((∀ z, v ≠ .str z) → E (.ref CP) none H)
theorem scRising : FnScope ["text", "place", "wishes", "sign"] ["text"] (defScope sRising) := ⟨rfl, rfl, rfl, by decide +kernel, rfl, by decide +kernel, by decide +kernel⟩
theorem d_rising {CP : Addr} (S : Src K mg "rising" sRising ["text"]) (D1 : DefX P w K mg base 1 "heights" ["text"] (spHeights K CP)) : DefX P w K mg base 2 "rising" ["text"] (spRising K CP) := by
  refine S.okL scRising (fun vs H Q E h => ?_) (fun f cdv A outer s H vs Q E hr h => ?_)
  · obtain ⟨v, rfl, _⟩ := h
    rfl
  · obtain ⟨v, rfl, hv, k1, k2⟩ := h
    refine ⟨_, fun own => pss_cons (ps_expr (pe_callX D1 hr (by rfl) (passL fun _ _ _ q => q) (pa_cons (pv 0) pa_nil)))
      (pss_cons (ps_set (i := 1) scRising.nd rfl (Or.inl rfl) pe_int)
      (pss_cons (ps_set (i := 2) scRising.nd rfl (Or.inl rfl) (pe_lst pa_nil))
      (pss_cons (ps_for own rfl (pi_str (pv 0)) (pg_name (i := 3) scRising.nd rfl (Or.inl rfl))
        (pss_one (ps_if (pt_cmpR op_eq (pv 3) pe_str (nomark _)) (pss_one (ps_expr (pe_bm PySem.F.plainAttrs_list PySem.F.slot_list_append PySem.F.type_list_append mt_append (pv 2) (pa_cons (pv 1) pa_nil)))) (pss_one (ps_aug (i := 1) scRising.nd rfl (Or.inl rfl) pe_int ip_add)))))
      (pss_one (ps_ret (pv 2)))))), ?_⟩
    refine ⟨_, rfl, _, rfl, hv, fun t e => ?_, fun no => k2 no⟩
    subst e
    obtain ⟨hlen, g1, g2⟩ := k1 t rfl
    refine ⟨hlen, fun gd l0 H1 nl0 hl0 sm => ?_, g2⟩
    obtain ⟨ok, h0⟩ := Pk.goodP_ok gd
    refine ⟨by decide, fun l nl => ?_⟩
    have nlH : H l = none := sm.free nl
    refine ⟨_, rfl, _, rfl, for_str (z := tx t) (fun i σ H' => ∃ v3 : Option V, σ = [some (.str (tx t)), some (.int (((Pk.wk (t.take i)).p : Nat) : Int)), some (.ref l), v3] ∧ Same H H' ∧ H' l = some (.lst (vI (Pk.wk (t.take i)).ws))) ⟨none, rfl, sm.next nl, upd_same⟩ ?_ ?_⟩
    · rintro i c σ H' hc ⟨v3, rfl, sm3, hl⟩
      have hc := tx_at hc
      have hi : i < t.length := (List.getElem?_eq_some_iff.mp hc).1
      have W := Pk.wok (Pk.wk_take_ok (i := i) ok)
      refine ⟨_, rfl, rfl, _, rfl, ?_⟩
      rw [s_u]
      rcases Pk.wk_next ok hc with ⟨rfl, _, e1, e2⟩ | ⟨rfl, _, e1, e2⟩
      · rw [decide_eq_true (one_eq.mpr rfl)]
        refine iteT ⟨_, rfl, .inl ⟨rfl, _, SqL.of hl⟩, _, rfl, l, _, _, rfl, rfl, hl, ?_, ?_⟩
        · rw [vI_len, ← W.hp]
          have a1 := Pk.wk_small (t.take i)
          rw [List.length_take] at a1
          exact Nat.lt_of_lt_of_le (show (Pk.wk (t.take i)).h + (Pk.wk (t.take i)).p < 5000 by omega) (by decide)
        · refine ⟨some (.str ⟨#[117]⟩), ?_, sm3.own nlH, ?_⟩
          · rw [e1]
            rfl
          · rw [upd_same, e2, vI_snoc]
      · rw [decide_eq_false (fun z => absurd (one_eq.mp z) (by decide))]
        refine iteF ⟨_, rfl, _, _, rfl, rfl, ?_⟩
        refine ⟨some (.str ⟨#[100]⟩), ?_, sm3, ?_⟩
        · rw [e1, Int.natCast_add]
          rfl
        · rw [e2]
          exact hl
    · rintro σ H' ⟨v3, rfl, sm3, hl⟩
      rw [tx_size, List.take_length] at hl
      exact ⟨_, rfl, g1 gd l H' nlH hl sm3⟩
structure Bt3 (mg : Str → Option Value) : Prop where
  zip : mg "zip" = none
  set : mg "set" = none
theorem b_set : bootBuiltins "set" = some (.type "set") := by decide +kernel
theorem toI_nodup {ws : List Nat} (h : ws.Nodup) : (toI ws).Nodup := by
  unfold toI
  exact List.Pairwise.map _ (fun a b hab e => hab (by omega)) h
def spChkSt : Sp := fun vs H Q _ => ∃ (a : Addr) (st : List Nat), vs = [.ref a] ∧ H a = some (.lst (vI st)) ∧ st.length ≤ 63 ∧ Pk.Stn st.length st ∧ ∀ H', Same H H' → Q .non H'
theorem scChkSt : FnScope ["standing"] ["standing"] (defScope sChkSt) := ⟨rfl, rfl, rfl, by decide +kernel, rfl, by decide +kernel, by decide +kernel⟩
theorem d_chkst (S : Src K mg "check_standing" sChkSt ["standing"]) (B : Bt K mg) (B3 : Bt3 mg) (D1 : Def P w K mg base 3 "is_list_below_its_length" ["things", "more"] (spListB K)) : Def P w K mg base 4 "check_standing" ["standing"] spChkSt := by
  refine S.ok scChkSt (fun vs H Q E h => ?_) (fun f cdv A outer s H vs Q E hr h => ?_)
  · obtain ⟨a, st, rfl, _⟩ := h
    rfl
  · obtain ⟨a, st, rfl, ha, hlen, T, k⟩ := h
    refine ⟨_, pss_one (ps_if (pw_or (pt_not (pt_val (pe_callD D1 hr (by rfl) (pa_cons (pv 0) (pa_cons pe_int pa_nil))))) (pw_or1 (pt_cmp (pc_lt (pe_callB call_len_setI (by rfl) B.len b_len (pa_cons (pe_callTy (call_setL rfl) (by rfl) B3.set b_set (pa_cons (pv 0) pa_nil)) pa_nil)) (pe_callB call_len_seq (by rfl) B.len b_len (pa_cons (pv 0) pa_nil)))))).pt pss_never pss_nil), ?_⟩
    refine ⟨_, rfl, .ref a, 0, rfl, .lst ha, fun a' xs e1 e2 => ?_, fun no => absurd ha (no a _ rfl)⟩
    cases e1
    rw [ha] at e2
    cases e2
    refine ⟨anyI K H (toI st), _, rfl, ?_⟩
    rw [goodI (by rw [vI_len]; exact T.lt)]
    refine iteF ?_
    refine ⟨_, rfl, a, toI st, rfl, SqL.of ha, by rw [toI_len]; omega, fun S' p np => ?_⟩
    refine ⟨p, _, _, rfl, upd_same, ?_⟩
    have sm : Same H (upd H p (.set S' (dst (toI st)))) := Same.new np
    refine ⟨_, rfl, a, _, rfl, .inl (SqL.of (sm _ _ ha)), _, _, rfl, rfl, _, rfl, iteFd ?_ (k _ sm)⟩
    rw [dst_nodup (toI_nodup T.nd), toI_len, vI_len]
    omega
def rcs (st : List Nat) (i : Nat) : List Nat := (List.range i).map (Pk.rch st)
theorem rcs_len (st : List Nat) (i : Nat) : (rcs st i).length = i := by unfold rcs; rw [List.length_map, List.length_range]
theorem rcs_at {st : List Nat} {i j : Nat} (h : j < i) : (rcs st i)[j]? = some (Pk.rch st j) := by
  unfold rcs
  rw [List.getElem?_map, List.getElem?_range h]
  rfl
theorem rcs_succ (st : List Nat) (i : Nat) : rcs st (i + 1) = rcs st i ++ [Pk.rch st i] := by
  unfold rcs
  rw [List.range_succ, List.map_append]
  rfl
def spReaches : Sp := fun vs H Q _ => ∃ (a : Addr) (st : List Nat), vs = [.ref a] ∧ H a = some (.lst (vI st)) ∧ st.length ≤ 63 ∧ Pk.Stn st.length st ∧ ∀ (l : Addr) (H' : Hp), H l = none → H' l = some (.lst (vI (rcs st st.length))) → Same H H' → Q (.ref l) H'
theorem scReaches : FnScope ["standing", "told", "place", "car", "reach"] ["standing"] (defScope sReaches) := ⟨rfl, rfl, rfl, by decide +kernel, rfl, by decide +kernel, by decide +kernel⟩
set_option maxHeartbeats 8000000 in
theorem d_reaches (S : Src K mg "reaches" sReaches ["standing"]) (B : Bt K mg) (D1 : Def P w K mg base 4 "check_standing" ["standing"] spChkSt) : Def P w K mg base 5 "reaches" ["standing"] spReaches := by
  refine S.ok scReaches (fun vs H Q E h => ?_) (fun f cdv A outer s H vs Q E hr h => ?_)
  · obtain ⟨a, st, rfl, _⟩ := h
    rfl
  · obtain ⟨a, st, rfl, ha, hlen, T, k⟩ := h
    refine ⟨_, pss_cons (ps_expr (pe_callD D1 hr (by rfl) (pa_cons (pv 0) pa_nil)))
      (pss_cons (ps_set (i := 1) scReaches.nd rfl (Or.inl rfl) (pe_lst pa_nil))
      (pss_cons (ps_for PassesOwn.never rfl (pi_enum (by rfl) B.enum (pa_cons (pv 0) pa_nil)) (pg_tup rfl (pgs_cons (pg_name (i := 2) scReaches.nd rfl (Or.inl rfl)) (pgs_cons (pg_name (i := 3) scReaches.nd rfl (Or.inl rfl)) pgs_nil)))
        (pss_cons (ps_set (i := 4) scReaches.nd rfl (Or.inl rfl) (pv 2))
        (pss_cons (ps_while PassesOwn.never (pw_and (pt_cmp (pc_gt (pv 4) pe_int)) (pw_and1 (pt_cmp (pc_lt (pe_ix ix_list (pv 0) (pe_op op_sub (pv 4) pe_int) (fun _ _ => rfl)) (pv 3))))).pt
          (pss_one (ps_set (i := 4) scReaches.nd rfl (Or.inl rfl) (pe_ix ix_list (pv 1) (pe_op op_sub (pv 4) pe_int) (fun _ _ => rfl)))))
        (pss_one (ps_expr (pe_bm PySem.F.plainAttrs_list PySem.F.slot_list_append PySem.F.type_list_append mt_append (pv 1) (pa_cons (pv 4) pa_nil)))))))
      (pss_one (ps_ret (pv 1))))), ?_⟩
    refine ⟨_, rfl, a, st, rfl, ha, hlen, T, fun H1 s1 => ?_⟩
    refine ⟨by decide, fun l nl => ?_⟩
    have nlH : H l = none := s1.free nl
    have s2 := s1.next (o := .lst []) nl
    refine ⟨_, rfl, a, rfl, ⟨_, SqL.of (s2 _ _ ha)⟩, for_enum (K := K) (a := a) (c := 0) (xs := vI st) (fun i σ H' => ∃ v2 v3 v4 : Option V, σ = [some (.ref a), some (.ref l), v2, v3, v4] ∧ Same H H' ∧ H' l = some (.lst (vI (rcs st i))))
      ⟨none, none, none, rfl, s2, upd_same⟩ (fun i σ H' _ ⟨_, _, _, _, sm, _⟩ => SqL.of (sm _ _ ha)) ?_ ?_⟩
    · rintro i x σ H' q hx ⟨v2, v3, v4, rfl, sm, hl⟩ nq
      obtain ⟨c, hi, rfl⟩ := vI_at hx
      have hlt : i < st.length := (List.getElem?_eq_some_iff.mp hi).1
      have ec : Pk.at0 st i = c := Pk.at0_of hi
      have smq := sm.next (o := .tup [.int ((i + 0 : Nat) : Int), .int ((c : Nat) : Int)]) nq
      have hlq : (upd H' q (.tup [.int ((i + 0 : Nat) : Int), .int ((c : Nat) : Int)])) l = some (.lst (vI (rcs st i))) := by rw [upd_ne (ne_of_none hl nq)]; exact hl
      have haq := smq _ _ ha
      refine ⟨q, _, rfl, SqT.of upd_same, rfl, _, _, rfl, _, _, rfl, rfl, ?_⟩
      generalize upd H' q (.tup [.int ((i + 0 : Nat) : Int), .int ((c : Nat) : Int)]) = H2 at smq hlq haq
      refine ⟨_, rfl, ?_⟩
      refine ⟨fun m σ H3 => H3 = H2 ∧ ∃ r : Nat, m = r ∧ r ≤ i ∧ σ = [some (.ref a), some (.ref l), some (.int ((i + 0 : Nat) : Int)), some (.int ((c : Nat) : Int)), some (.int ((r : Nat) : Int))] ∧ ∀ j, r ≤ j → j < i → Pk.at0 st j < Pk.at0 st i, ⟨i, rfl, i, rfl, Nat.le_refl _, rfl, fun j h1 h2 => by omega⟩, ?_⟩
      rintro r σ H3 ⟨rfl, _, rfl, hri, rfl, hall⟩
      refine ⟨_, rfl, _, _, rfl, rfl, _, rfl, ite2d (fun h0 => ?_) (fun h0 => ?_)⟩
      · have h0 : 0 < r := by omega
        have e1 : ((r : Nat) : Int) - 1 = ((r - 1 : Nat) : Int) := by omega
        have hr1 := Pk.at0_some (st := st) (j := r - 1) (by omega)
        refine ⟨_, rfl, _, rfl, _, _, rfl, rfl, a, _, _, V.int ((Pk.at0 st (r - 1) : Nat) : Int), rfl, rfl, SqL.of haq, ?_, ?_⟩
        · rw [e1]
          exact atI_nat (vI_get hr1)
        refine ⟨_, rfl, _, _, rfl, rfl, _, rfl, ite2d (fun hlt2 => ?_) (fun hge => ?_)⟩
        · have hlt2 : Pk.at0 st (r - 1) < c := by omega
          refine ⟨fun σ' H' => ∃ m', m' < r ∧ H' = H3 ∧ ∃ r' : Nat, m' = r' ∧ r' ≤ i ∧ σ' = [some (.ref a), some (.ref l), some (.int ((i + 0 : Nat) : Int)), some (.int ((c : Nat) : Int)), some (.int ((r' : Nat) : Int))] ∧ ∀ j, r' ≤ j → j < i → Pk.at0 st j < Pk.at0 st i, fun _ _ z => z, ?_⟩
          refine ⟨_, rfl, _, rfl, _, _, rfl, rfl, l, _, _, V.int ((Pk.rch st (r - 1) : Nat) : Int), rfl, rfl, SqL.of hlq, ?_, ?_⟩
          · rw [e1]
            exact atI_nat (vI_get (rcs_at (by omega)))
          have R := Pk.rch_is st (r - 1)
          refine ⟨Pk.rch st (r - 1), by have := R.le; omega, rfl, _, rfl, by have := R.le; omega, rfl, fun j h1 h2 => ?_⟩
          by_cases c1 : j < r - 1
          · have := R.all j h1 c1
            omega
          · by_cases c2 : j = r - 1
            · rw [c2]; omega
            · exact hall j (by omega) h2
        · have R : Pk.IsR st i r := ⟨hri, hall, .inr (by omega)⟩
          refine ⟨_, rfl, .inl ⟨rfl, _, SqL.of hlq⟩, _, rfl, l, _, _, rfl, rfl, hlq, by rw [vI_len, rcs_len]; exact small1000 (by omega), ?_⟩
          refine ⟨_, _, _, rfl, smq.own nlH, ?_⟩
          rw [upd_same, rcs_succ, vI_snoc, Pk.rch_eq R]
      · have R : Pk.IsR st i r := ⟨hri, hall, .inl (by omega)⟩
        refine ⟨_, rfl, .inl ⟨rfl, _, SqL.of hlq⟩, _, rfl, l, _, _, rfl, rfl, hlq, by rw [vI_len, rcs_len]; exact small1000 (by omega), ?_⟩
        refine ⟨_, _, _, rfl, smq.own nlH, ?_⟩
        rw [upd_same, rcs_succ, vI_snoc, Pk.rch_eq R]
    · rintro σ H' ⟨v2, v3, v4, rfl, sm, hl⟩
      rw [vI_len] at hl
      exact ⟨_, rfl, k l H' nlH hl sm⟩
theorem bits_of {x : Int} (h1 : 1 ≤ x) (h2 : x < ((2 ^ 400 : Nat) : Int)) : Builtin.Int.intBits x ≤ 2 ^ 20 := by
  unfold Builtin.Int.intBits
  split
  · exact Nat.zero_le _
  · have hn : x.natAbs < 2 ^ 400 := by omega
    have : x.natAbs.log2 < 400 := (Nat.log2_lt (by omega)).mpr hn
    have e : (2 : Nat) ^ 20 = 1048576 := by decide
    omega
theorem prs_take {l : List Int} {k i : Nat} {a b : Int} (hl : l.length = 2 * k) (ha : l[2 * i]? = some a) (hb : l[2 * i + 1]? = some b) : ((Pk.prs l).take (i + 1)).map V.int = ((Pk.prs l).take i).map V.int ++ [V.int (a * b)] := by
  rw [List.take_add_one, Pk.prs_at i l a b ha hb, List.map_append]
  rfl
theorem prs_pos : ∀ {l : List Int}, (∀ x ∈ l, 1 ≤ x) → ∀ x ∈ Pk.prs l, 1 ≤ x
  | [], _, x, hx => nomatch hx
  | [_], _, x, hx => nomatch hx
  | a :: b :: r, h, x, hx => by
    have hx : x ∈ a * b :: Pk.prs r := hx
    rcases List.mem_cons.mp hx with e | e
    · have h1 := h a (by simp)
      have h2 := h b (by simp)
      have := Int.mul_le_mul h1 h2 (by decide) (by omega)
      omega
    · exact prs_pos (l := r) (fun y hy => h y (by simp [hy])) x e
def spProduct : Sp := fun vs H Q _ => ∃ (a : Addr) (ns : List Int), vs = [.ref a] ∧ H a = some (.lst (ns.map V.int)) ∧ ns.length ≤ 63 ∧ (∀ x ∈ ns, 1 ≤ x ∧ x ≤ 64) ∧ ∀ H', Same H H' → Q (.int (Pk.prd ns)) H'
theorem scProduct : FnScope ["factors", "left"] ["factors"] (defScope sProduct) := ⟨rfl, rfl, rfl, by decide +kernel, rfl, by decide +kernel, by decide +kernel⟩
set_option maxHeartbeats 16000000 in
theorem d_product (S : Src K mg "product" sProduct ["factors"]) (B : Bt K mg) : Def P w K mg base 1 "product" ["factors"] spProduct := by
  refine S.ok scProduct (fun vs H Q E h => ?_) (fun f cdv A outer s H vs Q E hr h => ?_)
  · obtain ⟨a, ns, rfl, _⟩ := h
    rfl
  · obtain ⟨a, ns, rfl, ha, hlen, hns, k⟩ := h
    refine ⟨_, pss_cons (ps_set (i := 1) scProduct.nd rfl (Or.inr rfl) (pe_op op_cat (pe_lst (pa_cons pe_int pa_nil)) (pv 0)))
      (pss_cons (ps_while PassesOwn.never (pt_cmp (pc_gt (pe_callB call_len_seq (by rfl) B.len b_len (pa_cons (pv 1) pa_nil)) pe_int))
        (pss_cons (ps_if (pt_cmpR op_eq (pe_op op_mod (pe_callB call_len_seq (by rfl) B.len b_len (pa_cons (pv 1) pa_nil)) pe_int) pe_int (nomark _)) (pss_one (ps_expr (pe_bm PySem.F.plainAttrs_list PySem.F.slot_list_append PySem.F.type_list_append mt_append (pv 1) (pa_cons pe_int pa_nil)))) pss_nil)
        (pss_one (ps_set (i := 1) scProduct.nd rfl (Or.inr rfl) (pe_comp (sc := defScope sProduct) ["factors", "left"] ["at", "left"] [none, some 1] ⟨rfl, by decide +kernel, by decide +kernel, by decide +kernel, by decide +kernel, rfl, by decide +kernel⟩ rfl rfl rfl
          (pi_rangeE (by rfl) B.range (pa_cons pe_int (pa_cons (pe_callB call_len_seq (by rfl) B.len b_len (pa_cons (pv 1) pa_nil)) (pa_cons pe_int pa_nil))))
          (fun C s H fp nd => ⟨pg_name (i := 0) nd rfl (Or.inl rfl), pts_nil, pe_op op_mulB (pe_ix (r := rIxL K) ix_list (pv 1) (pv 0) (fun _ _ => rfl)) (pe_ix (r := rIxL K) ix_list (pv 1) (pe_op op_add (pv 0) pe_int) (fun _ _ => rfl))⟩))))))
      (pss_one (ps_ret (pe_ix ix_list (pv 1) pe_int (fun _ _ => rfl))))), ?_⟩
    have big : Pk.prd ns < ((2 ^ 400 : Nat) : Int) := Pk.prd_small hns (by omega)
    refine ⟨by decide, fun l0 nl0 => ?_⟩
    have s0 : Same H (upd H l0 (.lst [.int 1])) := Same.new nl0
    refine ⟨_, rfl, l0, a, [.int 1], _, rfl, rfl, upd_same, s0 _ _ ha, ?_, fun l1 nl1 => ?_⟩
    · rw [List.length_map]
      exact small63' (by simp only [List.length_singleton]; omega)
    have s1 := s0.next (o := .lst ([V.int 1] ++ ns.map V.int)) nl1
    have nl1H : H l1 = none := s0.free nl1
    refine ⟨fun m σ H' => ∃ (l : Addr) (ls : List Int), m = ls.length ∧ σ = [some (.ref a), some (.ref l)] ∧ H' l = some (.lst (ls.map V.int)) ∧ H l = none ∧ Same H H' ∧ 1 ≤ ls.length ∧ ls.length ≤ 64 ∧ (∀ x ∈ ls, 1 ≤ x) ∧ Pk.prd ls = Pk.prd ns,
      ⟨_, l1, 1 :: ns, rfl, rfl, upd_same, nl1H, s1, by simp, by simp only [List.length_cons]; omega, fun x hx => ?_, ?_⟩, ?_⟩
    · rcases List.mem_cons.mp hx with e | e
      · omega
      · exact (hns x e).1
    · rw [Pk.prd_cons, Int.one_mul]
    rintro m σ H' ⟨l, ls, rfl, rfl, hl, nl, sm, h1, h64, pos, pe⟩
    have ll : (ls.map V.int).length = ls.length := List.length_map ..
    refine ⟨_, rfl, l, _, rfl, .inl (SqL.of hl), _, _, rfl, rfl, _, rfl, ite2d (fun hgt => ?_) (fun hgt => ?_)⟩
    · rw [ll] at hgt
      refine ⟨fun σ' H' => ∃ m', m' < ls.length ∧ ∃ (l : Addr) (ls : List Int), m' = ls.length ∧ σ' = [some (.ref a), some (.ref l)] ∧ H' l = some (.lst (ls.map V.int)) ∧ H l = none ∧ Same H H' ∧ 1 ≤ ls.length ∧ ls.length ≤ 64 ∧ (∀ x ∈ ls, 1 ≤ x) ∧ Pk.prd ls = Pk.prd ns, fun _ _ z => z, ?_⟩
      refine ⟨_, rfl, l, _, rfl, .inl (SqL.of hl), _, _, rfl, rfl, (by show (0 : Int) < 2; decide), rfl, _, rfl, ?_⟩
      rw [ll]
      have key : ∀ (ks : List Int) (kk : Nat) (H2 : Hp), ks.length = 2 * kk → 1 ≤ kk → kk < ls.length → kk ≤ 64 → (∀ x ∈ ks, 1 ≤ x) → Pk.prd ks = Pk.prd ns → H2 l = some (.lst (ks.map V.int)) → Same H H2 →
          ∀ (σ : St) (H3 : Hp) (p : Addr), H3 = H2 → H3 p = none → ∃ m', m' < ls.length ∧ ∃ (l : Addr) (ls : List Int), m' = ls.length ∧ [some (V.ref a), some (V.ref p)] = [some (V.ref a), some (V.ref l)] ∧ (upd H3 p (.lst (((Pk.prs ks).take kk).map V.int))) l = some (.lst (ls.map V.int)) ∧ H l = none ∧ Same H (upd H3 p (.lst (((Pk.prs ks).take kk).map V.int))) ∧ 1 ≤ ls.length ∧ ls.length ≤ 64 ∧ (∀ x ∈ ls, 1 ≤ x) ∧ Pk.prd ls = Pk.prd ns := by
        rintro ks kk H2 e1 e2 e3 e4 e5 e6 e7 e8 σ H3 p rfl np
        have pl := Pk.prs_len kk ks e1
        refine ⟨kk, e3, p, Pk.prs ks, pl.symm, rfl, ?_, e8.free np, e8.next np, by omega, by omega, prs_pos e5, ?_⟩
        · rw [upd_same, List.take_of_length_le (by omega)]
        · rw [Pk.prs_prd kk ks e1, e6]
      have step : ∀ (ks : List Int) (kk i : Nat), ks.length = 2 * kk → i < kk → (∀ x ∈ ks, 1 ≤ x) → Pk.prd ks = Pk.prd ns → ∃ x y, ks[2 * i]? = some x ∧ ks[2 * i + 1]? = some y ∧ Builtin.Int.intBits x ≤ 2 ^ 20 ∧ Builtin.Int.intBits y ≤ 2 ^ 20 := fun ks kk i e1 hi e5 e6 => by
        have g1 : ks[2 * i]? = some ks[2 * i] := List.getElem?_eq_getElem (by omega)
        have g2 : ks[2 * i + 1]? = some ks[2 * i + 1] := List.getElem?_eq_getElem (by omega)
        refine ⟨_, _, g1, g2, ?_, ?_⟩
        · have m := List.mem_of_getElem? g1
          have := Pk.prd_mem e5 m
          exact bits_of (e5 _ m) (by omega)
        · have m := List.mem_of_getElem? g2
          have := Pk.prd_mem e5 m
          exact bits_of (e5 _ m) (by omega)
      by_cases odd : ls.length % 2 = 1
      · rw [decide_eq_true (show V.int (((ls.length : Nat) : Int) % 2) = V.int 1 from congrArg V.int (by omega))]
        refine iteT ⟨_, rfl, .inl ⟨rfl, _, SqL.of hl⟩, l, _, _, rfl, rfl, hl, by rw [ll]; exact small1000 (by omega), ?_⟩
        have e1 : (ls ++ [1]).length = 2 * ((ls.length + 1) / 2) := by rw [List.length_append]; simp only [List.length_singleton]; omega
        have pos1 : ∀ x ∈ ls ++ [1], 1 ≤ x := fun x hx => by
          rcases List.mem_append.mp hx with z | z
          · exact pos x z
          · rw [List.mem_singleton.mp z]; decide
        have pe1 : Pk.prd (ls ++ [1]) = Pk.prd ns := by rw [Pk.prd_append, pe]; show Pk.prd ns * (1 * 1) = _; rw [Int.mul_one, Int.mul_one]
        have em : ls.map V.int ++ [V.int 1] = (ls ++ [1]).map V.int := by rw [List.map_append]; rfl
        rw [em]
        have hl1 : (upd H' l (.lst ((ls ++ [1]).map V.int))) l = some (.lst ((ls ++ [1]).map V.int)) := upd_same
        have sm1 : Same H (upd H' l (.lst ((ls ++ [1]).map V.int))) := sm.own nl
        generalize upd H' l (.lst ((ls ++ [1]).map V.int)) = H2 at hl1 sm1
        refine ⟨_, rfl, l, _, rfl, .inl (SqL.of hl1), (ls.length + 1) / 2, ?_, by omega, ?_⟩
        · rw [List.length_map, e1]
        refine comp_rangeE (fun i => ((Pk.prs (ls ++ [1])).take i).map V.int) (fun i σ H3 => H3 = H2 ∧ ∃ v, σ = [v, some (.ref l)]) (small63' (by omega)) (fun i _ => by rw [List.length_map, List.length_take]; omega) rfl ⟨rfl, none, rfl⟩ ?_ ?_
        · rintro i σ H3 hi ⟨rfl, v, rfl⟩
          obtain ⟨x, y, g1, g2, b1, b2⟩ := step _ _ i e1 hi pos1 pe1
          refine g_name ?_
          refine t_true ?_
          refine iteT ?_
          refine ⟨_, rfl, _, rfl, l, _, _, .int x, rfl, rfl, SqL.of hl1, atI_nat (by rw [List.getElem?_map, g1]; rfl), _, rfl, _, rfl, _, _, rfl, rfl, l, _, _, .int y, rfl, rfl, SqL.of hl1, ?_, x, y, rfl, rfl, ⟨b1, b2⟩, cnx hi (prs_take e1 g1 g2).symm ⟨rfl, _, rfl⟩⟩
          have ei : ((2 * i : Nat) : Int) + 1 = ((2 * i + 1 : Nat) : Int) := by omega
          rw [ei]
          exact atI_nat (by rw [List.getElem?_map, g2]; rfl)
        · rintro σ H3 p ⟨e, v, rfl⟩ np
          exact key _ _ H2 e1 (by omega) (by omega) (by omega) pos1 pe1 hl1 sm1 [] H3 p e np
      · rw [decide_eq_false (fun z => odd (by have := V.int.inj z; omega))]
        refine iteF ?_
        have e1 : ls.length = 2 * (ls.length / 2) := by omega
        refine ⟨_, rfl, l, _, rfl, .inl (SqL.of hl), ls.length / 2, ?_, by omega, ?_⟩
        · rw [List.length_map, ← e1]
        refine comp_rangeE (fun i => ((Pk.prs ls).take i).map V.int) (fun i σ H3 => H3 = H' ∧ ∃ v, σ = [v, some (.ref l)]) (small63' (by omega)) (fun i _ => by rw [List.length_map, List.length_take]; omega) rfl ⟨rfl, none, rfl⟩ ?_ ?_
        · rintro i σ H3 hi ⟨rfl, v, rfl⟩
          obtain ⟨x, y, g1, g2, b1, b2⟩ := step _ _ i e1 hi pos pe
          refine g_name ?_
          refine t_true ?_
          refine iteT ?_
          refine ⟨_, rfl, _, rfl, l, _, _, .int x, rfl, rfl, SqL.of hl, atI_nat (by rw [List.getElem?_map, g1]; rfl), _, rfl, _, rfl, _, _, rfl, rfl, l, _, _, .int y, rfl, rfl, SqL.of hl, ?_, x, y, rfl, rfl, ⟨b1, b2⟩, cnx hi (prs_take e1 g1 g2).symm ⟨rfl, _, rfl⟩⟩
          have ei : ((2 * i : Nat) : Int) + 1 = ((2 * i + 1 : Nat) : Int) := by omega
          rw [ei]
          exact atI_nat (by rw [List.getElem?_map, g2]; rfl)
        · rintro σ H3 p ⟨e, v, rfl⟩ np
          exact key _ _ H' e1 (by omega) (by omega) (by omega) pos pe hl sm [] H3 p e np
    · rw [ll] at hgt
      have l1 : ls.length = 1 := by omega
      match ls, l1 with
      | [x], _ =>
        have ex : x = Pk.prd ns := by rw [← pe]; show x = x * 1; rw [Int.mul_one]
        refine ⟨_, rfl, l, _, _, .int x, rfl, rfl, SqL.of hl, rfl, ?_⟩
        rw [ex]
        exact k _ sm
def spHowMany : Sp := fun vs H Q _ => ∃ (a : Addr) (st : List Nat), vs = [.ref a] ∧ H a = some (.lst (vI st)) ∧ st.length ≤ 63 ∧ Pk.Stn st.length st ∧ ∀ H', Same H H' → Q (.int (Pk.prd ((List.range st.length).map fun i => ((i - Pk.rch st i + 1 : Nat) : Int)))) H'
theorem scHowMany : FnScope ["standing"] ["standing"] (defScope sHowMany) := ⟨rfl, rfl, rfl, by decide +kernel, rfl, by decide +kernel, by decide +kernel⟩
theorem d_howmany (S : Src K mg "how_many" sHowMany ["standing"]) (B : Bt K mg) (D1 : Def P w K mg base 5 "reaches" ["standing"] spReaches) (D2 : Def P w K mg base 1 "product" ["factors"] spProduct) : Def P w K mg base 6 "how_many" ["standing"] spHowMany := by
  refine S.ok scHowMany (fun vs H Q E h => ?_) (fun f cdv A outer s H vs Q E hr h => ?_)
  · obtain ⟨a, st, rfl, _⟩ := h
    rfl
  · obtain ⟨a, st, rfl, ha, hlen, T, k⟩ := h
    have hr1 := hr.mono (show 1 ≤ 5 by decide)
    refine ⟨_, pss_one (ps_ret (pe_callD D2 hr1 (by rfl) (pa_cons (pe_comp (sc := defScope sHowMany) ["standing"] ["place", "reach"] [none, none] ⟨rfl, by decide +kernel, by decide +kernel, by decide +kernel, by decide +kernel, rfl, by decide +kernel⟩ rfl rfl rfl
      (pi_enum (by rfl) B.enum (pa_cons (pe_callD D1 hr (by rfl) (pa_cons (pv 0) pa_nil)) pa_nil))
      (fun C s H fp nd => ⟨pg_tupK (K := K) (n := 2) rfl rfl (pgs_cons (pg_name (i := 0) nd rfl (Or.inl rfl)) (pgs_cons (pg_name (i := 1) nd rfl (Or.inl rfl)) pgs_nil)), pts_nil, pe_op op_add (pe_op op_sub (pv 0) (pv 1)) pe_int⟩)) pa_nil))), ?_⟩
    refine ⟨_, rfl, a, st, rfl, ha, hlen, T, fun l H1 nl hl sm => ?_⟩
    refine ⟨l, rfl, ⟨_, SqL.of hl⟩, ?_⟩
    refine comp_enum (c := 0) (xs := vI (rcs st st.length)) (fun i => ((List.range i).map fun i => ((i - Pk.rch st i + 1 : Nat) : Int)).map V.int) (fun i σ H2 => Same H1 H2 ∧ σ.length = 2) (by rw [vI_len, rcs_len]; exact small63 hlen) (fun i _ => by rw [List.length_map, List.length_map, List.length_range]; exact Nat.le_refl _) rfl ⟨Same.refl _, rfl⟩ (fun i σ H2 e => SqL.of (e.1 _ _ hl)) ?_ ?_
    · rintro i x σ H2 p hx hi ⟨sm2, hσ⟩ np
      obtain ⟨r, hr', rfl⟩ := vI_at hx
      rw [vI_len, rcs_len] at hi
      rw [rcs_at hi] at hr'
      cases hr'
      match σ, hσ with
      | [v0, v1], _ =>
        have le := Pk.rch_le st i
        refine ⟨p, _, rfl, SqT.of upd_same, rfl, _, _, rfl, ?_⟩
        refine ⟨_, _, rfl, ?_⟩
        refine ⟨rfl, ?_⟩
        refine t_true ?_
        refine iteT ?_
        refine ⟨_, rfl, _, rfl, _, _, rfl, rfl, _, _, rfl, rfl, cnx (by rw [vI_len, rcs_len]; exact hi) ?_ ⟨sm2.next np, rfl⟩⟩
        rw [List.range_succ, List.map_append, List.map_append]
        have e : ((i + 0 : Nat) : Int) - ((Pk.rch st i : Nat) : Int) + 1 = ((i - Pk.rch st i + 1 : Nat) : Int) := by omega
        show _ ++ [V.int (((i + 0 : Nat) : Int) - ((Pk.rch st i : Nat) : Int) + 1)] = _
        rw [e]
        rfl
    · rintro σ H2 p ⟨sm2, _⟩ np
      rw [vI_len, rcs_len]
      refine ⟨p, _, rfl, upd_same, by rw [List.length_map, List.length_range]; exact hlen, fun x hx => ?_, fun H3 s3 => k _ ((sm.trans (sm2.next np)).trans s3)⟩
      obtain ⟨i, hi, rfl⟩ := List.mem_map.mp hx
      have := List.mem_range.mp hi
      omega
def badS (m : Nat) : V → Bool
  | .int i => decide (i < 0) || decide ((m : Int) < i)
  | _ => true
def spChkSteps (K : PySem.W.Frag) (CD : Addr) : Sp := fun vs H Q E => ∃ (b : Addr) (ms : List Nat) (v : V), vs = [.ref b, v] ∧ H b = some (.lst (vI ms)) ∧ ms.length ≤ 900 ∧ Any K H v ∧
  (∀ a xs, v = .ref a → H a = some (.lst xs) → (∀ x ∈ xs, Any K H x) ∧ xs.length ≤ 900 ∧
    ((xs.length = ms.length ∧ ∀ (i : Nat) (x : V) (m : Nat), xs[i]? = some x → ms[i]? = some m → badS m x = false) → ∀ H', Same H H' → Q .non H') ∧
    ((xs.length ≠ ms.length ∨ ∃ (i : Nat) (x : V) (m : Nat), xs[i]? = some x ∧ ms[i]? = some m ∧ badS m x = true) → ∀ H', Same H H' → E (.ref CD) none H')) ∧
  ((∀ a xs, v = .ref a → H a ≠ some (.lst xs)) → E (.ref CD) none H)
theorem scChkSteps : FnScope ["most", "steps", "step", "bound"] ["most", "steps"] (defScope sChkSteps) := ⟨rfl, rfl, rfl, by decide +kernel, rfl, by decide +kernel, by decide +kernel⟩
theorem Any.stay {K : PySem.W.Frag} {H H' : Hp} {v : V} (h : Any K H v) (s : Same H H') : Any K H' v := by
  cases h with
  | non => exact .non
  | bl b => exact .bl b
  | int i => exact .int i
  | str x => exact .str x
  | lst e => exact .lst (s _ _ e)
  | tup e => exact .tup (s _ _ e)
set_option maxHeartbeats 8000000 in
theorem d_chksteps {CD : Addr} (S : Src K mg "check_steps" sChkSteps ["most", "steps"]) (B : Bt K mg) (B3 : Bt3 mg) (xd : XC K CD) (md : mg "BadStanding" = some (.ref CD)) (D1 : Def P w K mg base 1 "is_number" ["thing"] (spIsNumG K)) : DefX P w K mg base 2 "check_steps" ["most", "steps"] (spChkSteps K CD) := by
  refine S.okL scChkSteps (fun vs H Q E h => ?_) (fun f cdv A outer s H vs Q E hr h => ?_)
  · obtain ⟨b, ms, v, rfl, _⟩ := h
    rfl
  · obtain ⟨b, ms, v, rfl, hb, hlen, hv, k1, k2⟩ := h
    obtain ⟨ty, bb, hty, e1, e2, e3⟩ := hv.isL
    refine ⟨_, fun own => pss_cons (ps_if (pw_or (pt_not (pt_val (pe_callB call_isi (by rfl) B.isi b_isi (pa_cons (pv 1) (pa_cons (pe_bltn (v := .ty "list") (by rfl) B.list b_list rfl) pa_nil))))) (pw_or1 (pt_cmpR op_ne (pe_callB call_len_seq (by rfl) B.len b_len (pa_cons (pv 1) pa_nil)) (pe_callB call_len_seq (by rfl) B.len b_len (pa_cons (pv 0) pa_nil)) (nomark _)))).pt (pss_one (ps_raise xd rfl (by rfl) md makesL (pa_cons pe_str pa_nil))) pss_nil)
      (pss_one (ps_for own rfl (pi_zip (by rfl) B3.zip (pa_cons (pv 1) (pa_cons (pv 0) pa_nil))) (pg_tup rfl (pgs_cons (pg_name (i := 2) scChkSteps.nd rfl (Or.inl rfl)) (pgs_cons (pg_name (i := 3) scChkSteps.nd rfl (Or.inl rfl)) pgs_nil)))
        (pss_one (ps_if (pw_or (pt_not (pt_val (pe_callD D1 hr (by rfl) (pa_cons (pv 2) pa_nil)))) (pw_or (pt_cmp (pc_lt (pv 2) pe_int)) (pw_or1 (pt_cmp (pc_gt (pv 2) (pv 3)))))).pt (pss_one (ps_raise xd rfl (by rfl) md makesL (pa_cons pe_str pa_nil))) pss_nil)))), ?_⟩
    refine ⟨_, rfl, _, _, _, _, _, rfl, hty, .inl ⟨_, rfl, rfl⟩, e1, _, rfl, ?_⟩
    cases bb with
    | false => exact iteT ⟨by decide, k2 (e3 rfl)⟩
    | true =>
      obtain ⟨a, xs, rfl, ha⟩ := e2 rfl
      obtain ⟨hx, xl, g1, g2⟩ := k1 a xs rfl ha
      refine iteF ?_
      refine ⟨_, rfl, a, _, rfl, .inl (SqL.of ha), _, rfl, b, _, rfl, .inl (SqL.of hb), rfl, _, rfl, ?_⟩
      rw [vI_len]
      by_cases hl : xs.length = ms.length
      · rw [decide_eq_true (by rw [hl])]
        refine iteF ?_
        refine ⟨_, rfl, _, rfl, .lst a, .lst b, ms.length, _, _, rfl, ⟨rfl, _, SqL.of ha⟩, ⟨rfl, _, SqL.of hb⟩, ?_⟩
        refine for_zip (K := K) (fun i σ H' => ∃ v2 v3 : Option V, σ = [some (.ref b), some (.ref a), v2, v3] ∧ Same H H' ∧ ∀ (j : Nat) (x : V) (m : Nat), j < i → xs[j]? = some x → ms[j]? = some m → badS m x = false) ⟨none, none, rfl, Same.refl _, fun j x m z => absurd z (Nat.not_lt_zero _)⟩
          (fun i σ H' _ ⟨_, _, _, sm, _⟩ => ⟨⟨_, SqL.of (sm _ _ ha), hl⟩, ⟨_, SqL.of (sm _ _ hb), vI_len ms⟩⟩) ?_ ?_
        · rintro i x y σ H' p hi ax ay ⟨v2, v3, rfl, sm, ok⟩ np
          have hxi := ax _ (SqL.of (sm _ _ ha))
          obtain ⟨m, hmi, rfl⟩ := vI_at (ay _ (SqL.of (sm _ _ hb)))
          have smp := sm.next (o := .tup [x, .int ((m : Nat) : Int)]) np
          refine ⟨p, _, rfl, SqT.of upd_same, rfl, _, _, rfl, _, _, rfl, rfl, ?_⟩
          have anyx := (hx x (List.mem_of_getElem? hxi)).stay smp
          refine ⟨_, rfl, x, rfl, anyx, _, rfl, ?_⟩
          have no : badS m x = true → (1 : Nat) ≤ sizeLine ∧ E (.ref CD) none (upd H' p (.tup [x, .int ((m : Nat) : Int)])) := fun e => ⟨by decide, g2 (.inr ⟨i, x, m, hxi, hmi, e⟩) _ smp⟩
          have more : badS m x = false → ∀ (j : Nat) (x : V) (m : Nat), j < i + 1 → xs[j]? = some x → ms[j]? = some m → badS m x = false := fun e j x' m' hj h1 h2 => by
            by_cases c : j = i
            · subst c
              rw [hxi] at h1
              rw [hmi] at h2
              cases h1
              cases h2
              exact e
            · exact ok j x' m' (by omega) h1 h2
          cases x with
          | int i' =>
            refine iteF ?_
            refine ⟨_, rfl, _, _, rfl, rfl, _, rfl, ite2d (fun c => ?_) (fun c => ?_)⟩
            · exact no (by show (decide (i' < 0) || _) = true; rw [decide_eq_true c]; rfl)
            · refine ⟨_, rfl, _, rfl, _, _, rfl, rfl, _, rfl, ite2d (fun d => ?_) (fun d => ?_)⟩
              · exact no (by show (_ || decide ((m : Int) < i')) = true; rw [decide_eq_true d]; exact Bool.or_true _)
              · exact ⟨_, _, rfl, smp, more (by show (decide (i' < 0) || decide ((m : Int) < i')) = false; rw [decide_eq_false c, decide_eq_false d]; rfl)⟩
          | non => exact iteT (no rfl)
          | bl b => exact iteT (no rfl)
          | str y => exact iteT (no rfl)
          | byt y => exact iteT (no rfl)
          | flt y => exact iteT (no rfl)
          | ref y => exact iteT (no rfl)
          | ty y => exact iteT (no rfl)
        · rintro σ H' ⟨v2, v3, rfl, sm, ok⟩
          exact g1 ⟨hl, fun i x m h1 h2 => ok i x m (List.getElem?_eq_some_iff.mp h2).1 h1 h2⟩ H' sm
      · rw [decide_eq_false (fun z => hl (by have := V.int.inj z; omega))]
        exact iteT ⟨by decide, g2 (.inl hl) H (Same.refl _)⟩
def mst (st : List Nat) (i : Nat) : List Nat := (List.range i).map fun j => j - Pk.rch st j
theorem mst_len (st : List Nat) (i : Nat) : (mst st i).length = i := by unfold mst; rw [List.length_map, List.length_range]
theorem mst_at {st : List Nat} {i j : Nat} (h : j < i) : (mst st i)[j]? = some (j - Pk.rch st j) := by
  unfold mst
  rw [List.getElem?_map, List.getElem?_range h]
  rfl
theorem mst_succ (st : List Nat) (i : Nat) : mst st (i + 1) = mst st i ++ [i - Pk.rch st i] := by
  unfold mst
  rw [List.range_succ, List.map_append]
  rfl
def drv (st ss : List Nat) : List Nat := (List.range st.length).map fun c => Pk.pos st c - Pk.at0 ss (Pk.pos st c)
def drvT (st ss : List Nat) (i : Nat) : List Nat := (List.range st.length).map fun c => if Pk.pos st c < i then Pk.pos st c - Pk.at0 ss (Pk.pos st c) else 0
theorem drvT_len (st ss : List Nat) (i : Nat) : (drvT st ss i).length = st.length := by unfold drvT; rw [List.length_map, List.length_range]
theorem drvT_all {st ss : List Nat} (T : Pk.Stn st.length st) : drvT st ss st.length = drv st ss := by
  unfold drvT drv
  refine List.map_congr_left fun c hc => ?_
  rw [if_pos (T.pos_lt (List.mem_range.mp hc))]
theorem drvT_zero (st ss : List Nat) : vI (drvT st ss 0) = List.replicate st.length (V.int 0) := by
  rw [vI_eq]
  unfold drvT
  rw [List.map_map]
  refine List.ext_getElem? fun j => ?_
  by_cases h : j < st.length
  · rw [List.getElem?_map, List.getElem?_range h, List.getElem?_replicate, if_pos h]
    rfl
  · rw [List.getElem?_eq_none (by rw [List.length_map, List.length_range]; omega), List.getElem?_eq_none (by rw [List.length_replicate]; omega)]
theorem drvT_set {st ss : List Nat} {i c : Nat} (T : Pk.Stn st.length st) (h : st[i]? = some c) : (vI (drvT st ss i)).set c (V.int ((i - Pk.at0 ss i : Nat) : Int)) = vI (drvT st ss (i + 1)) := by
  have hp := T.pos_at h
  have hc := T.lt c (List.mem_of_getElem? h)
  refine List.ext_getElem? fun j => ?_
  rw [List.getElem?_set, vI_len, drvT_len]
  by_cases hj : j < st.length
  · have e : ∀ k, (vI (drvT st ss k))[j]? = some (V.int ((if Pk.pos st j < k then Pk.pos st j - Pk.at0 ss (Pk.pos st j) else 0 : Nat) : Int)) := fun k => by
      refine vI_get ?_
      unfold drvT
      rw [List.getElem?_map, List.getElem?_range hj]
      rfl
    rw [e (i + 1)]
    by_cases c1 : c = j
    · subst c1
      rw [if_pos rfl, if_pos hc, hp, if_pos (Nat.lt_succ_self _)]
    · rw [if_neg c1, e i]
      have ne : Pk.pos st j ≠ i := fun z => c1 (by
        have := T.at_pos hj
        rw [z, h] at this
        exact Option.some.inj this)
      by_cases c2 : Pk.pos st j < i
      · rw [if_pos c2, if_pos (by omega)]
      · rw [if_neg c2, if_neg (by omega)]
  · rw [if_neg (by omega), List.getElem?_eq_none (by rw [vI_len, drvT_len]; omega), List.getElem?_eq_none (by rw [vI_len, drvT_len]; omega)]
def spFromSteps (K : PySem.W.Frag) (CD : Addr) : Sp := fun vs H Q E => ∃ (a b : Addr) (st : List Nat) (xs : List Int), vs = [.ref a, .ref b] ∧ H a = some (.lst (vI st)) ∧ st.length ≤ 63 ∧ Pk.Stn st.length st ∧ H b = some (.lst (xs.map V.int)) ∧ xs.length ≤ 900 ∧
  (∀ ss : List Nat, xs = toI ss → ss.length = st.length → (∀ i, i < st.length → Pk.at0 ss i ≤ i - Pk.rch st i) → ∀ (l : Addr) (H' : Hp), H l = none → H' l = some (.lst (vI (drv st ss))) → Same H H' → Q (.ref l) H') ∧
  ((xs.length = st.length ∧ ∃ (i : Nat) (x : Int), xs[i]? = some x ∧ (x < 0 ∨ ((i - Pk.rch st i : Nat) : Int) < x)) → ∀ H', Same H H' → E (.ref CD) none H') ∧
  ((∃ ss : List Nat, xs = toI ss ∧ ss.length = st.length ∧ ∀ i, i < st.length → Pk.at0 ss i ≤ i - Pk.rch st i) ∨ (xs.length = st.length ∧ ∃ (i : Nat) (x : Int), xs[i]? = some x ∧ (x < 0 ∨ ((i - Pk.rch st i : Nat) : Int) < x)))
theorem scFromSteps : FnScope ["standing", "steps", "place", "wishes", "car"] ["standing", "steps"] (defScope sFromSteps) := ⟨rfl, rfl, rfl, by decide +kernel, rfl, by decide +kernel, by decide +kernel⟩
set_option maxHeartbeats 8000000 in
theorem d_fromsteps {CD : Addr} (S : Src K mg "from_steps" sFromSteps ["standing", "steps"]) (B : Bt K mg) (D1 : Def P w K mg base 5 "reaches" ["standing"] spReaches) (D2 : DefX P w K mg base 2 "check_steps" ["most", "steps"] (spChkSteps K CD)) : DefX P w K mg base 6 "from_steps" ["standing", "steps"] (spFromSteps K CD) := by
  refine S.okL scFromSteps (fun vs H Q E h => ?_) (fun f cdv A outer s H vs Q E hr h => ?_)
  · obtain ⟨a, b, st, xs, rfl, _⟩ := h
    rfl
  · obtain ⟨a, b, st, xs, rfl, ha, hlen, T, hb, hxl, k1, k2, dec⟩ := h
    have hr2 := hr.mono (show 2 ≤ 5 by decide)
    refine ⟨_, fun own => pss_cons (ps_expr (pe_callX D2 hr2 (by rfl) (passL fun _ _ _ q => q) (pa_cons (pe_comp (sc := defScope sFromSteps) ["standing", "steps", "place", "wishes", "car"] ["place", "reach"] [none, none] ⟨rfl, by decide +kernel, by decide +kernel, by decide +kernel, by decide +kernel, rfl, by decide +kernel⟩ rfl rfl rfl
        (pi_enum (by rfl) B.enum (pa_cons (pe_callD D1 hr (by rfl) (pa_cons (pv 0) pa_nil)) pa_nil))
        (fun C s H fp nd => ⟨pg_tupK (K := K) (n := 2) rfl rfl (pgs_cons (pg_name (i := 0) nd rfl (Or.inl rfl)) (pgs_cons (pg_name (i := 1) nd rfl (Or.inl rfl)) pgs_nil)), pts_nil, pe_op op_sub (pv 0) (pv 1)⟩)) (pa_cons (pv 1) pa_nil))))
      (pss_cons (ps_set (i := 3) scFromSteps.nd rfl (Or.inl rfl) (pe_op op_rep (pe_lst (pa_cons pe_int pa_nil)) (pe_callB call_len_seq (by rfl) B.len b_len (pa_cons (pv 0) pa_nil))))
      (pss_cons (ps_for own rfl (pi_enum (by rfl) B.enum (pa_cons (pv 0) pa_nil)) (pg_tup rfl (pgs_cons (pg_name (i := 2) scFromSteps.nd rfl (Or.inl rfl)) (pgs_cons (pg_name (i := 4) scFromSteps.nd rfl (Or.inl rfl)) pgs_nil)))
        (pss_one (ps_asg (pe_op op_sub (pv 2) (pe_ix ix_list (pv 1) (pv 2) (fun _ _ => rfl))) (pg_sub (pv 3) (pv 4) set_list))))
      (pss_one (ps_ret (pv 3))))), ?_⟩
    refine ⟨_, rfl, a, st, rfl, ha, hlen, T, fun l H1 nl hl sm => ?_⟩
    refine ⟨l, rfl, ⟨_, SqL.of hl⟩, ?_⟩
    refine comp_enum (c := 0) (xs := vI (rcs st st.length)) (fun i => vI (mst st i)) (fun i σ H2 => Same H1 H2 ∧ σ.length = 2) (by rw [vI_len, rcs_len]; exact small63 hlen) (fun i _ => by rw [vI_len, mst_len]; exact Nat.le_refl _) rfl ⟨Same.refl _, rfl⟩ (fun i σ H2 e => SqL.of (e.1 _ _ hl)) ?_ ?_
    · rintro i x σ H2 p hx hi ⟨sm2, hσ⟩ np
      obtain ⟨r, hr', rfl⟩ := vI_at hx
      rw [vI_len, rcs_len] at hi
      rw [rcs_at hi] at hr'
      cases hr'
      match σ, hσ with
      | [v0, v1], _ =>
        have le := Pk.rch_le st i
        refine ⟨p, _, rfl, SqT.of upd_same, rfl, _, _, rfl, ?_⟩
        refine ⟨_, _, rfl, ?_⟩
        refine ⟨rfl, ?_⟩
        refine t_true ?_
        refine iteT ?_
        refine ⟨_, rfl, _, rfl, _, _, rfl, rfl, cnx (by rw [vI_len, rcs_len]; exact hi) ?_ ⟨sm2.next np, rfl⟩⟩
        have e : ((i + 0 : Nat) : Int) - ((Pk.rch st i : Nat) : Int) = ((i - Pk.rch st i : Nat) : Int) := by omega
        show _ ++ [V.int (((i + 0 : Nat) : Int) - ((Pk.rch st i : Nat) : Int))] = _
        rw [e, mst_succ, vI_snoc]
    · rintro σ H2 p ⟨sm2, _⟩ np
      rw [vI_len, rcs_len]
      have s3 : Same H (upd H2 p (.lst (vI (mst st st.length)))) := (sm.trans sm2).next np
      have hb3 := s3 _ _ hb
      have ha3 := s3 _ _ ha
      refine ⟨_, rfl, p, mst st st.length, .ref b, rfl, upd_same, by rw [mst_len]; omega, .lst hb3, fun a' ys e1 e2 => ?_, fun no => absurd hb3 (no b _ rfl)⟩
      cases e1
      rw [hb3] at e2
      cases e2
      have nl2 : (xs.map V.int).length = xs.length := List.length_map ..
      refine ⟨anyI K _ xs, by rw [nl2]; exact hxl, ?_, ?_⟩
      · rintro ⟨el, good⟩ H4 s4
        rw [nl2, mst_len] at el
        have nobad : ¬ (xs.length = st.length ∧ ∃ (i : Nat) (x : Int), xs[i]? = some x ∧ (x < 0 ∨ ((i - Pk.rch st i : Nat) : Int) < x)) := by
          rintro ⟨_, i, x, hi, bad⟩
          have lt := (List.getElem?_eq_some_iff.mp hi).1
          have := good i (.int x) _ (by rw [List.getElem?_map, hi]; rfl) (mst_at (st := st) (i := st.length) (by omega))
          have this : (decide (x < 0) || decide (((i - Pk.rch st i : Nat) : Int) < x)) = false := this
          rcases bad with z | z
          · rw [decide_eq_true z] at this; cases this
          · rw [decide_eq_true z, Bool.or_true] at this; cases this
        obtain ⟨ss, rfl, sl, sb⟩ := dec.resolve_right nobad
        have s04 := s3.trans s4
        have ha4 := s04 _ _ ha
        have hb4 : H4 b = some (.lst (vI ss)) := s04 _ _ hb
        refine ⟨by decide, fun l0 nl0 => ?_⟩
        have s5 := s04.next (o := .lst [.int 0]) nl0
        refine ⟨_, rfl, a, _, rfl, .inl (SqL.of (s5 _ _ ha)), ?_⟩
        rw [vI_len]
        refine ⟨l0, _, _, rfl, rfl, upd_same, by omega, by omega, ?_, fun lw nlw => ?_⟩
        · rw [Int.toNat_natCast]
          exact small63' (by simp only [List.length_singleton]; omega)
        rw [Int.toNat_natCast, flat_rep, ← drvT_zero st ss]
        have s6 := s5.next (o := .lst (vI (drvT st ss 0))) nlw
        have nlwH : H lw = none := s5.free nlw
        refine ⟨_, rfl, a, rfl, ⟨_, SqL.of (s6 _ _ ha)⟩, for_enum (K := K) (a := a) (c := 0) (xs := vI st) (fun i σ H' => ∃ v2 v4 : Option V, σ = [some (.ref a), some (.ref b), v2, some (.ref lw), v4] ∧ Same H H' ∧ H' lw = some (.lst (vI (drvT st ss i))))
          ⟨none, none, rfl, s6, upd_same⟩ (fun i σ H' _ ⟨_, _, _, sm, _⟩ => SqL.of (sm _ _ ha)) ?_ ?_⟩
        · rintro i x σ H' q hx ⟨v2, v4, rfl, sm, hl⟩ nq
          obtain ⟨c, hi, rfl⟩ := vI_at hx
          have hlt : i < st.length := (List.getElem?_eq_some_iff.mp hi).1
          have hc := T.lt c (List.mem_of_getElem? hi)
          have smq := sm.next (o := .tup [.int ((i + 0 : Nat) : Int), .int ((c : Nat) : Int)]) nq
          have hlq : (upd H' q (.tup [.int ((i + 0 : Nat) : Int), .int ((c : Nat) : Int)])) lw = some (.lst (vI (drvT st ss i))) := by rw [upd_ne (ne_of_none hl nq)]; exact hl
          refine ⟨q, _, rfl, SqT.of upd_same, rfl, _, _, rfl, _, _, rfl, rfl, ?_⟩
          have hss := Pk.at0_some (st := ss) (j := i) (by omega)
          have ssle := sb i hlt
          have rle := Pk.rch_le st i
          refine ⟨_, rfl, _, rfl, _, rfl, b, _, _, .int ((Pk.at0 ss i : Nat) : Int), rfl, rfl, SqL.of (smq _ _ hb), atI_nat (vI_get hss), _, _, rfl, rfl, ?_⟩
          have e : ((i + 0 : Nat) : Int) - ((Pk.at0 ss i : Nat) : Int) = ((i - Pk.at0 ss i : Nat) : Int) := by omega
          refine ⟨_, rfl, _, rfl, lw, _, _, c, rfl, rfl, hlq, by rw [vI_len, drvT_len]; exact ixN_at hc, ?_⟩
          refine ⟨_, _, rfl, smq.own nlwH, ?_⟩
          rw [upd_same, ← drvT_set T hi, ← e]
        · rintro σ H' ⟨v2, v4, rfl, sm, hl⟩
          rw [vI_len, drvT_all T] at hl
          exact ⟨_, rfl, k1 ss rfl sl sb lw H' nlwH hl sm⟩
      · rintro bad H4 s4
        refine k2 ?_ H4 (s3.trans s4)
        rw [nl2, mst_len] at bad
        rcases bad with z | ⟨i, x, m, h1, h2, h3⟩
        · rcases dec with ⟨ss, rfl, sl, _⟩ | ⟨e, _⟩
          · rw [toI_len] at z; exact absurd sl z
          · exact absurd e z
        · have lt : i < st.length := by
            have := (List.getElem?_eq_some_iff.mp h2).1
            rw [mst_len] at this
            exact this
          rw [mst_at lt] at h2
          cases h2
          obtain ⟨n, hn, rfl⟩ := int_at h1
          have el : xs.length = st.length := by
            rcases dec with ⟨ss, rfl, sl, _⟩ | ⟨e, _⟩
            · rw [toI_len]; exact sl
            · exact e
          refine ⟨el, i, n, hn, ?_⟩
          have h3 : (decide (n < 0) || decide (((i - Pk.rch st i : Nat) : Int) < n)) = true := h3
          rcases Bool.or_eq_true_iff.mp h3 with z | z
          · exact .inl (of_decide_eq_true z)
          · exact .inr (of_decide_eq_true z)
abbrev lamQ : Str := ("tree" : Str) ++ (".<locals>." : Str) ++ ("<lambda>" : Str)
abbrev lamSc : Scope := { kind := .function, names := [("car", .local), ("wishes", .free)], isGenerator := false, isCoroutine := false }
abbrev lamPos : Pos := ⟨lamL, 54, lamL, 81⟩
abbrev lamPs : Arguments := { posonlyargs := [], args := [{ arg := "car", annotation := none, pos := ⟨lamL, 61, lamL, 64⟩ }], vararg := none, kwonlyargs := [], kw_defaults := [], kwarg := none, defaults := [] }
theorem b_range : bootBuiltins "range" = some (.type "range") := by decide +kernel
def spTree (CM pt : Addr) : Sp := fun vs H Q E => ∃ (a : Addr) (ws : List Nat), vs = [.ref a] ∧ H a = some (.lst (vI ws)) ∧ ws.length ≤ 63 ∧ (∀ w ∈ ws, w < ws.length) ∧ Tab H pt lamPos lamQ ∧
  (Pk.FullL ws.length ws → ∀ (l : Addr) (H' : Hp), H l = none → H' l = some (.lst (vI (Pk.psOf ws))) → SameT pt H H' → Tab H' pt lamPos lamQ → Q (.ref l) H') ∧ (¬ Pk.FullL ws.length ws → ∀ H', Same H H' → E (.ref CM) none H')
theorem scTree : FnScope ["wishes", "row"] ["wishes"] (defScope sTree) := ⟨rfl, rfl, rfl, by decide +kernel, rfl, by decide +kernel, by decide +kernel⟩
theorem lam_sorted {ws : List Nat} {p : Array Nat} (hw : ∀ w ∈ ws, w < ws.length) (hp : Ks.Pre ws.length p ws.length) (hu : Ks.Up (fun i => ((ws.getD i 0 : Nat) : Int)) p ws.length) : [V.int 0] ++ (p.toList.map fun (i : Nat) => V.int (1 + (i : Nat))) = vI (Pk.byW ws ws.length) := by
  have hl : p.toList.length = ws.length := by rw [Array.length_toList]; exact hp.sz
  rw [← Pk.row_sort (xs := p.toList.map (· + 1)) hw (by rw [List.length_map]; exact hl) ?_ ?_]
  · rw [vI_eq, List.map_cons, List.map_map]
    show V.int 0 :: _ = V.int 0 :: _
    congr 1
    refine List.map_congr_left fun i _ => ?_
    show V.int (1 + (i : Int)) = V.int (((i + 1 : Nat) : Nat) : Int)
    congr 1
    omega
  · intro x hx
    obtain ⟨i, hi, rfl⟩ := List.mem_map.mp hx
    have := pre_lt hp hi
    omega
  · rw [List.pairwise_map, List.pairwise_iff_getElem]
    intro i j hi hj hij
    have h := hu i j hij (by omega)
    have e1 : Ks.at' p i = p.toList[i] := Ks.at_of (by rw [← Array.getElem?_toList, List.getElem?_eq_getElem hi])
    have e2 : Ks.at' p j = p.toList[j] := Ks.at_of (by rw [← Array.getElem?_toList, List.getElem?_eq_getElem hj])
    rw [e1, e2] at h
    unfold Ks.lx at h
    unfold Pk.lexw Pk.at0
    simp only [Nat.add_sub_cancel]
    dsimp only at h
    rcases h with h | ⟨h, g⟩
    · exact .inl (by omega)
    · exact .inr ⟨by omega, by omega⟩
set_option maxHeartbeats 8000000 in
theorem d_tree {CM pt : Addr} (S : SrcL K mg "tree" sTree ["wishes"] pt) (B : Bt K mg) (BM : Bm mg base) (D1 : DefX P w K mg base 5 "check_full" ["wishes"] (spChkFull CM)) : DefX P w K mg base 6 "tree" ["wishes"] (spTree CM pt) := by
  refine S.okX scTree (fun vs H Q E h => ?_) (fun f cc A outer s H vs Q E hck hr h => ?_)
  · obtain ⟨a, ws, rfl, _⟩ := h
    rfl
  · obtain ⟨a, ws, rfl, ha, hlen, hw, tb, k1, k2⟩ := h
    refine ⟨_, pss_cons (ps_expr (pe_callX D1 hr (by rfl) (pass1 fun _ _ _ q => q) (pa_cons (pv 0) pa_nil)))
      (pss_cons (ps_set (i := 1) scTree.nd rfl (Or.inr rfl) (pe_op op_cat (pe_lst (pa_cons pe_int pa_nil)) (pe_callBS (call_sortedL (iw := 0) (x := "wishes") (y := "car") (q := lamQ) (ps := lamPs) (sc := lamSc) (p1 := ⟨lamL, 66, lamL, 72⟩) (p2 := ⟨lamL, 73, lamL, 76⟩) (p3 := ⟨lamL, 79, lamL, 80⟩) (p4 := ⟨lamL, 73, lamL, 80⟩) (p5 := ⟨lamL, 66, lamL, 81⟩) (k5 := 0) (cw := s.heap.objs.size + 1) rfl hr rfl rfl (by rfl) (fun _ _ _ _ => rfl) rfl rfl rfl (by decide +kernel) rfl rfl (by decide) (by decide) (by decide))
        (by rfl) B.sorted b_sorted (pa_cons (pe_callTy call_rangeV (by rfl) B.range b_range (pa_cons pe_int (pa_cons (pe_op op_add (pe_callB call_len_seq (by rfl) B.len b_len (pa_cons (pv 0) pa_nil)) pe_int) pa_nil))) pa_nil) (pk_cons (pe_lam rfl hck BM rfl (by rfl)) pk_nil))))
      (pss_one (ps_ret (pe_comp (sc := defScope sTree) ["wishes", "row"] ["wish", "row"] [none, some 1] ⟨rfl, by decide +kernel, by decide +kernel, by decide +kernel, by decide +kernel, rfl, by decide +kernel⟩ rfl rfl rfl (pi_list (pv 0))
        (fun C s H fp nd => ⟨pg_name (i := 0) nd rfl (Or.inl rfl), pts_nil, pe_ix (r := rIxL K) ix_list (pv 1) (pv 0) (fun _ _ => rfl)⟩))))), ?_⟩
    refine ⟨_, rfl, a, ws, rfl, ha, hlen, hw, fun fu H1 sm => ?_, k2⟩
    refine ⟨by decide, fun l0 nl0 => ?_⟩
    have s0 := sm.next (o := .lst [.int 0]) nl0
    refine ⟨_, rfl, a, _, rfl, .inl (SqL.of (s0 _ _ ha)), _, _, rfl, rfl, 1, _, rfl, fun rg nrg => ?_⟩
    have s1 := s0.next (o := .rng 1 ((((vI ws).length : Nat) : Int) + 1)) nrg
    refine ⟨tb.same s1, fun H3 c fl sT t1 nf hf => ?_⟩
    have tb1 := tb.same s1
    have tb3 : Tab H3 pt lamPos lamQ := .inr ⟨c, t1⟩
    have a3 : H3 a = some (.lst (vI ws)) := sT.get tb1 (s1 _ _ ha)
    have l03 : H3 l0 = some (.lst [.int 0]) := sT.get tb1 (by rw [upd_ne (ne_of_none upd_same nrg)]; exact upd_same)
    have rg3 : H3 rg = some (.rng 1 ((((vI ws).length : Nat) : Int) + 1)) := sT.get tb1 upd_same
    have sH : SameT pt H H3 := (SameT.of s1).trans sT
    refine ⟨rg, a, fl, c, ws, rfl, rfl, ?_, hf, t1.2, rfl, SqL.of a3, by omega, fun p l hp hu nl => ?_⟩
    · rw [rg3, vI_len]
    have s4 : Same H3 (upd H3 l (.lst (p.toList.map fun (i : Nat) => V.int (1 + (i : Nat))))) := Same.new nl
    refine ⟨l0, l, [.int 0], _, rfl, rfl, s4 _ _ l03, upd_same, ?_, fun r nr => ?_⟩
    · have hl : p.toList.length = ws.length := by rw [Array.length_toList]; exact hp.sz
      rw [List.length_map, hl]
      exact small63' (by simp only [List.length_singleton]; omega)
    rw [lam_sorted hw hp hu]
    have s5 := s4.next (o := .lst (vI (Pk.byW ws ws.length))) nr
    obtain ⟨H5, e5⟩ : ∃ H5, upd (upd H3 l (.lst (p.toList.map fun (i : Nat) => V.int (1 + (i : Nat))))) r (.lst (vI (Pk.byW ws ws.length))) = H5 := ⟨_, rfl⟩
    have hr5 : H5 r = some (.lst (vI (Pk.byW ws ws.length))) := by rw [← e5]; exact upd_same
    rw [e5] at s5
    have tb5 := tb3.same s5
    have sH5 := sH.same s5
    have a5 := s5 _ _ a3
    rw [e5]
    have bl : (Pk.byW ws ws.length).length = ws.length + 1 := (Pk.byW_stn fu).len
    refine ⟨_, rfl, a, rfl, ⟨_, SqL.of a5⟩, ?_⟩
    refine comp_list (xs := vI ws) (fun i => vI ((ws.take i).map (Pk.at0 (Pk.byW ws ws.length)))) (fun i σ H' => H' = H5 ∧ ∃ v, σ = [v, some (.ref r)]) (by rw [vI_len]; exact small63 hlen) (fun i hi => ?_) rfl ⟨rfl, none, rfl⟩ (fun i σ H' e => by rw [e.1]; exact SqL.of a5) ?_ ?_
    · rw [vI_len, List.length_map, List.length_take]
      omega
    · rintro i y σ H' hy hi ⟨rfl, v, rfl⟩
      obtain ⟨w, hwi, rfl⟩ := vI_at hy
      have hwl := hw w (List.mem_of_getElem? hwi)
      refine g_name ?_
      refine t_true ?_
      refine iteT ?_
      have hat : (Pk.byW ws ws.length)[w]? = some (Pk.at0 (Pk.byW ws ws.length) w) := by
        unfold Pk.at0
        rw [List.getD_eq_getElem?_getD, List.getElem?_eq_getElem (by omega)]
        rfl
      refine ⟨_, rfl, _, rfl, r, _, _, _, rfl, rfl, SqL.of hr5, atI_nat (vI_get hat), ?_⟩
      refine cnx hi ?_ ⟨rfl, _, rfl⟩
      rw [take_succ_at hwi, List.map_append, List.map_cons, List.map_nil, vI_snoc]
    · rintro σ H' l2 ⟨rfl, v, rfl⟩ nl2
      refine k1 fu l2 _ (sH5.free tb5 nl2) ?_ (sH5.same (Same.new nl2)) (tb5.same (Same.new nl2))
      rw [upd_same, vI_len, List.take_length]
      rfl
def LL (H : Hp) (as : List Addr) (G : Nat → List Nat) : Prop := ∀ (q : Nat) (a : Addr), as[q]? = some a → H a = some (.lst (vI (G q)))
theorem nodup_at {as : List Addr} (nd : as.Nodup) {i j : Nat} {b : Addr} (hi : as[i]? = some b) (hj : as[j]? = some b) : i = j := by
  obtain ⟨h1, e1⟩ := List.getElem?_eq_some_iff.mp hi
  obtain ⟨h2, e2⟩ := List.getElem?_eq_some_iff.mp hj
  have h := List.pairwise_iff_getElem.mp nd
  rcases Nat.lt_trichotomy i j with c | c | c
  · exact (h i j h1 h2 c (e1.trans e2.symm)).elim
  · exact c
  · exact (h j i h2 h1 c (e2.trans e1.symm)).elim
def spKids : Sp := fun vs H Q _ => ∃ (a : Addr) (ps : List Nat), vs = [.ref a] ∧ H a = some (.lst (vI ps)) ∧ ps.length ≤ 63 ∧ (∀ p ∈ ps, p ≤ ps.length) ∧
  ∀ (l : Addr) (as : List Addr) (H' : Hp), H l = none → as.length = ps.length + 1 → H' l = some (.lst (as.map V.ref)) → LL H' as (Pk.kids ps) → Same H H' → Q (.ref l) H'
theorem scKids : FnScope ["parents", "children", "car", "parent"] ["parents"] (defScope sKids) := ⟨rfl, rfl, rfl, by decide +kernel, rfl, by decide +kernel, by decide +kernel⟩
set_option maxHeartbeats 8000000 in
theorem d_kids (S : Src K mg "children_of" sKids ["parents"]) (B : Bt K mg) : Def P w K mg base 1 "children_of" ["parents"] spKids := by
  refine S.ok scKids (fun vs H Q E h => ?_) (fun f cdv A outer s H vs Q E hr h => ?_)
  · obtain ⟨a, ps, rfl, _⟩ := h
    rfl
  · obtain ⟨a, ps, rfl, ha, hlen, hp, k⟩ := h
    refine ⟨_, pss_cons (ps_setC (i := 1) scKids.nd rfl (Or.inl rfl) (sc := defScope sKids) ["parents", "children", "car", "parent"] ["one"] [none]
        ⟨rfl, by decide +kernel, by decide +kernel, by decide +kernel, by decide +kernel, rfl, by decide +kernel⟩ rfl rfl rfl (pi_range1 (by rfl) B.range (pa_cons (pe_op op_add (pe_callB call_len_seq (by rfl) B.len b_len (pa_cons (pv 0) pa_nil)) pe_int) pa_nil)) (fun C s H fp nd => ⟨pg_name (i := 0) nd rfl (Or.inl rfl), pts_nil, pe_lst pa_nil⟩))
      (pss_cons (ps_for PassesOwn.never rfl (pi_enum1 (by rfl) B.enum (pa_cons (pv 0) pa_nil)) (pg_tup rfl (pgs_cons (pg_name (i := 2) scKids.nd rfl (Or.inl rfl)) (pgs_cons (pg_name (i := 3) scKids.nd rfl (Or.inl rfl)) pgs_nil)))
        (pss_one (ps_expr (pe_bm PySem.F.plainAttrs_list PySem.F.slot_list_append PySem.F.type_list_append mt_append (pe_ix ix_list (pv 1) (pv 3) (fun _ _ => rfl)) (pa_cons (pv 2) pa_nil)))))
      (pss_one (ps_ret (pv 1)))), ?_⟩
    refine ⟨_, rfl, a, _, rfl, .inl (SqL.of ha), ?_⟩
    rw [vI_len]
    refine ⟨_, _, rfl, rfl, ((ps.length + 1 : Nat) : Int), by rw [Int.natCast_add]; rfl, by omega, by omega, ?_⟩
    rw [Int.toNat_natCast]
    refine comp_rangeA (fun i acc σ H2 => ∃ as : List Addr, acc = as.map V.ref ∧ as.length = i ∧ as.Nodup ∧ (∀ b ∈ as, H b = none ∧ H2 b = some (.lst [])) ∧ Same H H2) (small63' (by omega)) (fun i acc σ H2 _ ⟨as, e, l, _⟩ => by rw [e, List.length_map, l]; exact Nat.le_refl _)
      ⟨[], rfl, rfl, List.nodup_nil, fun b hb => by simp at hb, Same.refl _⟩ (fun i acc σ H2 hi ⟨as, e, l, nd, hb, sm⟩ => ?_) (fun acc σ H2 l ⟨as, e, hl, nd, hb, sm⟩ nl => ?_)
    · refine g_name ?_
      refine t_true ?_
      refine iteT ?_
      refine ⟨by decide, fun q nq => cna hi ⟨as ++ [q], by rw [e, List.map_append]; rfl, by rw [List.length_append, l]; rfl, ?_, fun b hb' => ?_, sm.next nq⟩⟩
      · refine nd_snoc nd fun m => ?_
        rw [(hb q m).2] at nq
        cases nq
      · rcases List.mem_append.mp hb' with m | m
        · exact ⟨(hb b m).1, by rw [upd_ne (ne_of_none (hb b m).2 nq)]; exact (hb b m).2⟩
        · rw [List.mem_singleton.mp m]
          exact ⟨sm.free nq, upd_same⟩
    subst e
    have s1 := sm.next (o := .lst (as.map V.ref)) nl
    have nlH := sm.free nl
    have hla : ∀ b ∈ as, b ≠ l := fun b m e => by
      subst e
      rw [(hb b m).2] at nl
      cases nl
    refine ⟨_, rfl, a, rfl, ⟨_, SqL.of (s1 _ _ ha)⟩, for_enum (K := K) (a := a) (c := 1) (xs := vI ps) (fun i σ H' => ∃ v2 v3 : Option V, σ = [some (.ref a), some (.ref l), v2, v3] ∧ Same H H' ∧ H' l = some (.lst (as.map V.ref)) ∧ LL H' as (Pk.kidsT ps i))
      ⟨none, none, rfl, s1, upd_same, fun q b hq => ?_⟩ (fun i σ H' _ ⟨_, _, _, sm, _⟩ => SqL.of (sm _ _ ha)) ?_ ?_⟩
    · have m := List.mem_of_getElem? hq
      rw [upd_ne (hla b m)]
      exact (hb b m).2
    · rintro i x σ H' q hx ⟨v2, v3, rfl, sm2, hl2, ll⟩ nq
      obtain ⟨p, hi, rfl⟩ := vI_at hx
      have hlt : i < ps.length := (List.getElem?_eq_some_iff.mp hi).1
      have hpl := hp p (List.mem_of_getElem? hi)
      have ep : Pk.at0 ps i = p := Pk.at0_of hi
      have smq := sm2.next (o := .tup [.int ((i + 1 : Nat) : Int), .int ((p : Nat) : Int)]) nq
      have smq' : Same H' (upd H' q (.tup [.int ((i + 1 : Nat) : Int), .int ((p : Nat) : Int)])) := Same.new nq
      have hlq := smq' _ _ hl2
      have llq : LL (upd H' q (.tup [.int ((i + 1 : Nat) : Int), .int ((p : Nat) : Int)])) as (Pk.kidsT ps i) := fun j b hj => smq' _ _ (ll j b hj)
      refine ⟨q, _, rfl, SqT.of upd_same, rfl, _, _, rfl, _, _, rfl, rfl, ?_⟩
      generalize upd H' q (.tup [.int ((i + 1 : Nat) : Int), .int ((p : Nat) : Int)]) = H2 at smq hlq llq
      obtain ⟨b, eb⟩ : ∃ b, as[p]? = some b := ⟨as[p], List.getElem?_eq_getElem (by omega)⟩
      have hb2 := llq p b eb
      have bm := List.mem_of_getElem? eb
      refine ⟨_, rfl, _, rfl, l, _, _, .ref b, rfl, rfl, SqL.of hlq, atI_nat (by rw [List.getElem?_map, eb]; rfl), .inl ⟨rfl, _, SqL.of hb2⟩, _, rfl, b, _, _, rfl, rfl, hb2, ?_, ?_⟩
      · rw [vI_len]
        have := Pk.kidsT_len ps i p
        exact Nat.lt_of_le_of_lt this (small1000 (by omega))
      · refine ⟨_, _, rfl, smq.own (hb b bm).1, ?_, fun j b' hj => ?_⟩
        · rw [upd_ne (hla b bm).symm]
          exact hlq
        · rw [Pk.kidsT_succ, ep]
          by_cases c : p = j
          · subst c
            rw [eb] at hj
            cases hj
            rw [if_pos rfl, upd_same, vI_snoc]
          · rw [if_neg c]
            have nb : b' ≠ b := fun z => by
              subst z
              exact c (nodup_at nd eb hj)
            rw [upd_ne nb]
            exact llq j b' hj
    · rintro σ H' ⟨v2, v3, rfl, sm2, hl2, ll⟩
      rw [vI_len] at ll
      exact ⟨_, rfl, k l as H' nlH hl hl2 ll sm2⟩
def spServed : Sp := fun vs H Q _ => ∃ (l : Addr) (as : List Addr) (ps : List Nat), vs = [.ref l] ∧ H l = some (.lst (as.map V.ref)) ∧ as.length = ps.length + 1 ∧ LL H as (Pk.kids ps) ∧ ps.length ≤ 63 ∧ (∀ p ∈ ps, p ≤ ps.length) ∧
  ∀ (r : Addr) (t : Nat) (H' : Hp), H r = none → Pk.Done ps t → H' r = some (.lst (vI (Pk.bfs ps t))) → Same H H' → Q (.ref r) H'
theorem scServed : FnScope ["children", "row", "turn"] ["children"] (defScope sServed) := ⟨rfl, rfl, rfl, by decide +kernel, rfl, by decide +kernel, by decide +kernel⟩
set_option maxHeartbeats 8000000 in
theorem d_served (S : Src K mg "served" sServed ["children"]) (B : Bt K mg) : Def P w K mg base 1 "served" ["children"] spServed := by
  refine S.ok scServed (fun vs H Q E h => ?_) (fun f cdv A outer s H vs Q E hr h => ?_)
  · obtain ⟨l, as, ps, rfl, _⟩ := h
    rfl
  · obtain ⟨l, as, ps, rfl, hl, hal, ll, hlen, hp, k⟩ := h
    refine ⟨_, pss_cons (ps_set (i := 1) scServed.nd rfl (Or.inl rfl) (pe_lst (pa_cons pe_int pa_nil)))
      (pss_cons (ps_set (i := 2) scServed.nd rfl (Or.inl rfl) pe_int)
      (pss_cons (ps_while PassesOwn.never (pt_cmp (pc_lt (pv 2) (pe_callB call_len_seq (by rfl) B.len b_len (pa_cons (pv 1) pa_nil))))
        (pss_cons (ps_expr (pe_bm PySem.F.plainAttrs_list PySem.F.slot_list_extend PySem.F.type_list_extend mt_extend (pv 1) (pa_cons (pe_ix ix_list (pv 0) (pe_ix ix_list (pv 1) (pv 2) (fun _ _ => rfl)) (fun _ _ => rfl)) pa_nil)))
        (pss_one (ps_aug (i := 2) scServed.nd rfl (Or.inl rfl) pe_int ip_add))))
      (pss_one (ps_ret (pv 1))))), ?_⟩
    refine ⟨by decide, fun r nr => ?_⟩
    have s0 : Same H (upd H r (.lst [.int 0])) := Same.new nr
    refine ⟨fun m σ H' => ∃ t : Nat, m = ps.length + 1 - t ∧ σ = [some (.ref l), some (.ref r), some (.int (t : Int))] ∧ Pk.goes ps t ∧ H' r = some (.lst (vI (Pk.bfs ps t))) ∧ Same H H', ⟨_, 0, rfl, rfl, fun s hs => absurd hs (Nat.not_lt_zero _), upd_same, s0⟩, ?_⟩
    rintro m σ H' ⟨t, rfl, rfl, go, hr', sm⟩
    have I := Pk.bfs_ok t go
    have gl := Pk.goes_len go
    refine ⟨_, rfl, _, rfl, r, _, rfl, .inl (SqL.of hr'), _, _, rfl, rfl, _, rfl, ite2d (fun hlt => ?_) (fun hlt => ?_)⟩
    · rw [vI_len] at hlt
      have hlt : t < (Pk.bfs ps t).length := by omega
      have hq := Pk.at0_some hlt
      have hql := I.le _ (List.mem_of_getElem? hq)
      obtain ⟨b, eb⟩ : ∃ b, as[Pk.at0 (Pk.bfs ps t) t]? = some b := ⟨as[Pk.at0 (Pk.bfs ps t) t], List.getElem?_eq_getElem (by omega)⟩
      have g1 := Pk.goes_succ go hlt
      have I1 := Pk.bfs_ok (t + 1) g1
      have l1 := I1.len
      have l0 := I.len
      refine ⟨fun σ' H' => ∃ m', m' < ps.length + 1 - t ∧ ∃ t : Nat, m' = ps.length + 1 - t ∧ σ' = [some (.ref l), some (.ref r), some (.int (t : Int))] ∧ Pk.goes ps t ∧ H' r = some (.lst (vI (Pk.bfs ps t))) ∧ Same H H', fun _ _ z => z, ?_⟩
      refine ⟨_, rfl, .inl ⟨rfl, _, SqL.of hr'⟩, _, rfl, _, rfl, _, rfl, r, _, _, _, rfl, rfl, SqL.of hr', atI_nat (vI_get hq), l, _, _, .ref b, rfl, rfl, SqL.of (sm _ _ hl), atI_nat (by rw [List.getElem?_map, eb]; rfl), r, b, _, _, rfl, rfl, hr', sm _ _ (ll _ b eb), ?_, ?_⟩
      · have e : (Pk.bfs ps (t + 1)).length = (Pk.bfs ps t).length + (Pk.kids ps (Pk.at0 (Pk.bfs ps t) t)).length := by
          show (Pk.bfs ps t ++ _).length = _
          rw [List.length_append]
        rw [vI_len, vI_len, ← e]
        exact Nat.le_of_lt (small1000 (by omega))
      · refine ⟨_, rfl, _, _, rfl, rfl, _, ?_, t + 1, rfl, ?_, g1, ?_, sm.own nr⟩
        · omega
        · rw [Int.natCast_add]
          rfl
        · rw [upd_same, vI_eq, vI_eq, ← List.map_append, ← vI_eq]
          rfl
    · rw [vI_len] at hlt
      exact ⟨_, rfl, k r t H' nr ⟨go, by omega⟩ hr' sm⟩
def tnsT (rs : List Nat) (i : Nat) : List Nat := (List.range rs.length).map fun x => if rs.idxOf x < i then rs.idxOf x else 0
theorem tnsT_len (rs : List Nat) (i : Nat) : (tnsT rs i).length = rs.length := by unfold tnsT; rw [List.length_map, List.length_range]
theorem tnsT_zero (rs : List Nat) : tnsT rs 0 = List.replicate rs.length 0 := by
  unfold tnsT
  refine List.eq_replicate_iff.mpr ⟨by rw [List.length_map, List.length_range], fun b hb => ?_⟩
  obtain ⟨x, _, rfl⟩ := List.mem_map.mp hb
  rw [if_neg (Nat.not_lt_zero _)]
theorem tnsT_set {rs : List Nat} {i x : Nat} (T : Pk.Stn rs.length rs) (h : rs[i]? = some x) : (tnsT rs i).set x i = tnsT rs (i + 1) := by
  have ex : rs.idxOf x = i := T.pos_at h
  refine List.ext_getElem? fun j => ?_
  unfold tnsT
  rw [List.getElem?_set]
  by_cases c : x = j
  · subst c
    have hx := T.lt x (List.mem_of_getElem? h)
    rw [if_pos rfl, if_pos (by rw [List.length_map, List.length_range]; exact hx), List.getElem?_map, List.getElem?_range hx]
    show some i = some (if rs.idxOf x < i + 1 then rs.idxOf x else 0)
    rw [ex, if_pos (Nat.lt_succ_self _)]
  · rw [if_neg c, List.getElem?_map, List.getElem?_map]
    by_cases hj : j < rs.length
    · rw [List.getElem?_range hj]
      show some (if rs.idxOf j < i then rs.idxOf j else 0) = some (if rs.idxOf j < i + 1 then rs.idxOf j else 0)
      have ne : rs.idxOf j ≠ i := fun e => by
        have := T.at_pos hj
        rw [show Pk.pos rs j = rs.idxOf j from rfl, e, h] at this
        exact c (Option.some.inj this)
      by_cases d : rs.idxOf j < i
      · rw [if_pos d, if_pos (by omega)]
      · rw [if_neg d, if_neg (by omega)]
    · rw [List.getElem?_eq_none (by rw [List.length_range]; omega)]
      rfl
theorem tnsT_all {rs : List Nat} (T : Pk.Stn rs.length rs) : tnsT rs rs.length = (List.range rs.length).map fun x => rs.idxOf x := by
  unfold tnsT
  refine List.map_congr_left fun x hx => ?_
  have h : rs.idxOf x < rs.length := T.pos_lt (List.mem_range.mp hx)
  rw [if_pos h]
def spTurnsOf : Sp := fun vs H Q _ => ∃ (a : Addr) (rs : List Nat), vs = [.ref a] ∧ H a = some (.lst (vI rs)) ∧ rs.length ≤ 64 ∧ Pk.Stn rs.length rs ∧
  ∀ (l : Addr) (H' : Hp), H l = none → H' l = some (.lst (vI ((List.range rs.length).map fun x => rs.idxOf x))) → Same H H' → Q (.ref l) H'
theorem scTurnsOf : FnScope ["row", "turns", "turn", "one"] ["row"] (defScope sTurnsOf) := ⟨rfl, rfl, rfl, by decide +kernel, rfl, by decide +kernel, by decide +kernel⟩
set_option maxHeartbeats 8000000 in
theorem d_turnsof (S : Src K mg "turns_of" sTurnsOf ["row"]) (B : Bt K mg) : Def P w K mg base 1 "turns_of" ["row"] spTurnsOf := by
  refine S.ok scTurnsOf (fun vs H Q E h => ?_) (fun f cdv A outer s H vs Q E hr h => ?_)
  · obtain ⟨a, rs, rfl, _⟩ := h
    rfl
  · obtain ⟨a, rs, rfl, ha, hlen, T, k⟩ := h
    refine ⟨_, pss_cons (ps_set (i := 1) scTurnsOf.nd rfl (Or.inl rfl) (pe_op op_rep (pe_lst (pa_cons pe_int pa_nil)) (pe_callB call_len_seq (by rfl) B.len b_len (pa_cons (pv 0) pa_nil))))
      (pss_cons (ps_for PassesOwn.never rfl (pi_enum (by rfl) B.enum (pa_cons (pv 0) pa_nil)) (pg_tup rfl (pgs_cons (pg_name (i := 2) scTurnsOf.nd rfl (Or.inl rfl)) (pgs_cons (pg_name (i := 3) scTurnsOf.nd rfl (Or.inl rfl)) pgs_nil)))
        (pss_one (ps_asg (pv 2) (pg_sub (pv 1) (pv 3) set_list))))
      (pss_one (ps_ret (pv 1)))), ?_⟩
    refine ⟨by decide, fun l0 nl0 => ?_⟩
    have s0 : Same H (upd H l0 (.lst [.int 0])) := Same.new nl0
    refine ⟨_, rfl, a, _, rfl, .inl (SqL.of (s0 _ _ ha)), l0, _, [.int 0], rfl, rfl, upd_same, by omega, ?_, ?_, fun l nl => ?_⟩
    · rw [vI_len]; omega
    · rw [vI_len, List.length_singleton, Nat.one_mul, Int.toNat_natCast]
      exact Nat.le_of_lt (small1000 (by omega))
    rw [vI_len, Int.toNat_natCast, flat_rep]
    have nlH := s0.free nl
    have s1 := s0.next (o := .lst (List.replicate rs.length (V.int 0))) nl
    refine ⟨_, rfl, a, rfl, ⟨_, SqL.of (s1 _ _ ha)⟩, for_enum (K := K) (a := a) (c := 0) (xs := vI rs) (fun i σ H' => ∃ v2 v3 : Option V, σ = [some (.ref a), some (.ref l), v2, v3] ∧ Same H H' ∧ H' l = some (.lst (vI (tnsT rs i))))
      ⟨none, none, rfl, s1, ?_⟩ (fun i σ H' _ ⟨_, _, _, sm, _⟩ => SqL.of (sm _ _ ha)) ?_ ?_⟩
    · rw [upd_same, tnsT_zero, vI_eq, List.map_replicate]
      rfl
    · rintro i x σ H' q hx ⟨v2, v3, rfl, sm, hl⟩ nq
      obtain ⟨c, hi, rfl⟩ := vI_at hx
      have hlt : i < rs.length := (List.getElem?_eq_some_iff.mp hi).1
      have hc := T.lt c (List.mem_of_getElem? hi)
      have smq := sm.next (o := .tup [.int ((i + 0 : Nat) : Int), .int ((c : Nat) : Int)]) nq
      have hlq : (upd H' q (.tup [.int ((i + 0 : Nat) : Int), .int ((c : Nat) : Int)])) l = some (.lst (vI (tnsT rs i))) := by rw [upd_ne (ne_of_none hl nq)]; exact hl
      refine ⟨q, _, rfl, SqT.of upd_same, rfl, _, _, rfl, _, _, rfl, rfl, ?_⟩
      generalize upd H' q (.tup [.int ((i + 0 : Nat) : Int), .int ((c : Nat) : Int)]) = H2 at smq hlq
      refine ⟨_, rfl, _, rfl, _, rfl, l, _, _, c, rfl, rfl, hlq, by rw [vI_len, tnsT_len]; exact ixN_at hc, ?_⟩
      refine ⟨_, _, rfl, smq.own nlH, ?_⟩
      rw [upd_same, ← tnsT_set T hi, vI_eq, vI_eq, List.map_set]
      rfl
    · rintro σ H' ⟨v2, v3, rfl, sm, hl⟩
      rw [vI_len, tnsT_all T] at hl
      exact ⟨_, rfl, k l H' nlH hl sm⟩
theorem vI_inj {a b : List Nat} (h : vI a = vI b) : a = b := by
  rw [vI_eq, vI_eq] at h
  exact (List.map_inj_right (fun x y e => by have := V.int.inj e; omega)).mp h
theorem goodV {n : Nat} : ∀ {xs : List V}, (xs.all fun x => !badV n x) = true → ∃ ps : List Nat, xs = vI ps ∧ ∀ p ∈ ps, p < n
  | [], _ => ⟨[], rfl, fun p hp => by simp at hp⟩
  | x :: r, h => by
    rw [List.all_cons, Bool.and_eq_true] at h
    obtain ⟨ps, e, hp⟩ := goodV h.2
    have hx : badV n x = false := by simpa using h.1
    cases x with
    | int i =>
      have hx : (decide (i < 0) || decide ((n : Int) ≤ i)) = false := hx
      rw [Bool.or_eq_false_iff] at hx
      have h1 := of_decide_eq_false hx.1
      have h2 := of_decide_eq_false hx.2
      refine ⟨i.toNat :: ps, ?_, fun p hm => ?_⟩
      · rw [e, vI_eq, vI_eq, List.map_cons, Int.toNat_of_nonneg (by omega)]
      · rcases List.mem_cons.mp hm with z | z
        · omega
        · exact hp p z
    | non => cases hx
    | bl b => cases hx
    | str s => cases hx
    | byt b => cases hx
    | flt b => cases hx
    | ref a => cases hx
    | ty t => cases hx
def spWishesOf (K : PySem.W.Frag) (CT : Addr) : Sp := fun vs H Q E => ∃ v : V, vs = [v] ∧ Any K H v ∧
  (∀ a xs, v = .ref a → H a = some (.lst xs) → (∀ x ∈ xs, Any K H x) ∧ xs.length ≤ 63 ∧ ((xs.all fun x => !badV (xs.length + 1) x) = false → E (.ref CT) none H) ∧
    ∀ ps, xs = vI ps → (∀ p ∈ ps, p ≤ ps.length) → ∀ t, Pk.Done ps t → (t ≤ ps.length → ∀ H', Same H H' → E (.ref CT) none H') ∧
      (t = ps.length + 1 → ∀ (l : Addr) (H' : Hp), H l = none → H' l = some (.lst (vI (Pk.wsOf ps))) → Same H H' → Q (.ref l) H')) ∧
  ((∀ a xs, v = .ref a → H a ≠ some (.lst xs)) → E (.ref CT) none H)
theorem scWishesOf : FnScope ["parents", "row", "turns"] ["parents"] (defScope sWishesOf) := ⟨rfl, rfl, rfl, by decide +kernel, rfl, by decide +kernel, by decide +kernel⟩
set_option maxHeartbeats 8000000 in
theorem d_wishesof {CT : Addr} (S : Src K mg "wishes_of" sWishesOf ["parents"]) (B : Bt K mg) (xt : XC K CT) (mt : mg "BadTree" = some (.ref CT)) (D1 : Def P w K mg base 3 "is_list_below_its_length" ["things", "more"] (spListB K))
    (D2 : Def P w K mg base 1 "children_of" ["parents"] spKids) (D3 : Def P w K mg base 1 "served" ["children"] spServed) (D4 : Def P w K mg base 1 "turns_of" ["row"] spTurnsOf) : DefX P w K mg base 4 "wishes_of" ["parents"] (spWishesOf K CT) := by
  refine S.okX scWishesOf (fun vs H Q E h => ?_) (fun f cdv A outer s H vs Q E hr h => ?_)
  · obtain ⟨v, rfl, _⟩ := h
    rfl
  · obtain ⟨v, rfl, hv, k1, k2⟩ := h
    have hr1 := hr.mono (show 1 ≤ 3 by decide)
    refine ⟨_, pss_cons (ps_if (pt_not (pt_val (pe_callD D1 hr (by rfl) (pa_cons (pv 0) (pa_cons pe_int pa_nil))))) (pss_one (ps_raise xt rfl (by rfl) mt makes1 (pa_cons pe_str pa_nil))) pss_nil)
      (pss_cons (ps_set (i := 1) scWishesOf.nd rfl (Or.inl rfl) (pe_callD D3 hr1 (by rfl) (pa_cons (pe_callD D2 hr1 (by rfl) (pa_cons (pv 0) pa_nil)) pa_nil)))
      (pss_cons (ps_if (pt_cmp (pc_le (pe_callB call_len_seq (by rfl) B.len b_len (pa_cons (pv 1) pa_nil)) (pe_callB call_len_seq (by rfl) B.len b_len (pa_cons (pv 0) pa_nil)))) (pss_one (ps_raise xt rfl (by rfl) mt makes1 (pa_cons pe_str pa_nil))) pss_nil)
      (pss_cons (ps_set (i := 2) scWishesOf.nd rfl (Or.inr rfl) (pe_callD D4 hr1 (by rfl) (pa_cons (pv 1) pa_nil)))
      (pss_one (ps_ret (pe_comp (sc := defScope sWishesOf) ["parents", "row", "turns"] ["parent", "turns"] [none, some 2] ⟨rfl, by decide +kernel, by decide +kernel, by decide +kernel, by decide +kernel, rfl, by decide +kernel⟩ rfl rfl rfl (pi_list (pv 0))
        (fun C s H fp nd => ⟨pg_name (i := 0) nd rfl (Or.inl rfl), pts_nil, pe_ix (r := rIxL K) ix_list (pv 1) (pv 0) (fun _ _ => rfl)⟩))))))), ?_⟩
    refine ⟨_, rfl, v, 1, rfl, hv, fun a xs e ha => ?_, fun no => ⟨_, rfl, iteT ⟨by decide, k2 no⟩⟩⟩
    obtain ⟨hx, xl, g1, g2⟩ := k1 a xs e ha
    subst e
    refine ⟨hx, _, rfl, ?_⟩
    cases eb : (xs.all fun x => !badV (xs.length + 1) x) with
    | false => exact iteT ⟨by decide, g1 eb⟩
    | true =>
      refine iteF ?_
      obtain ⟨ps, rfl, hp⟩ := goodV eb
      rw [vI_len] at hp xl
      have hp' : ∀ p ∈ ps, p ≤ ps.length := fun p m => by have := hp p m; omega
      refine ⟨_, rfl, a, ps, rfl, ha, xl, hp', fun lk as H1 nlk hal hlk ll s1 => ?_⟩
      refine ⟨lk, as, ps, rfl, hlk, hal, ll, xl, hp', fun r t H2 nr dn hr2 s2 => ?_⟩
      have s12 := s1.trans s2
      have g := g2 ps rfl hp' t dn
      have tl := (Pk.bfs_ok t dn.go).len
      rw [dn.fin] at tl
      refine ⟨_, rfl, r, _, rfl, .inl (SqL.of hr2), _, rfl, a, _, rfl, .inl (SqL.of (s12 _ _ ha)), _, _, rfl, rfl, _, rfl, ?_⟩
      rw [vI_len, vI_len, dn.fin]
      refine ite2d (fun c => ⟨by decide, g.1 (by omega) H2 s12⟩) (fun c => ?_)
      have et : t = ps.length + 1 := by omega
      subst et
      have Sv := dn.srv
      have rl : (Pk.bfs ps (ps.length + 1)).length = ps.length + 1 := dn.fin
      have T : Pk.Stn (Pk.bfs ps (ps.length + 1)).length (Pk.bfs ps (ps.length + 1)) := by rw [rl]; exact Sv.stn
      refine ⟨_, rfl, r, Pk.bfs ps (ps.length + 1), rfl, hr2, by omega, T, fun lt H3 nlt hlt s3 => ?_⟩
      rw [rl] at hlt
      have s13 := s12.trans s3
      have ha3 := s13 _ _ ha
      refine ⟨_, rfl, a, rfl, ⟨_, SqL.of ha3⟩, ?_⟩
      refine comp_list (xs := vI ps) (fun i => vI ((ps.take i).map (Pk.trn ps))) (fun i σ H' => H' = H3 ∧ ∃ v, σ = [v, some (.ref lt)]) (by rw [vI_len]; exact small63 xl) (fun i hi => ?_) rfl ⟨rfl, none, rfl⟩ (fun i σ H' e => by rw [e.1]; exact SqL.of ha3) ?_ ?_
      · rw [vI_len, List.length_map, List.length_take]
        omega
      · rintro i y σ H' hy hi ⟨rfl, v, rfl⟩
        obtain ⟨w, hwi, rfl⟩ := vI_at hy
        have hwl := hp' w (List.mem_of_getElem? hwi)
        refine g_name ?_
        refine t_true ?_
        refine iteT ?_
        have hat : ((List.range (ps.length + 1)).map fun x => (Pk.bfs ps (ps.length + 1)).idxOf x)[w]? = some (Pk.trn ps w) := by
          rw [List.getElem?_map, List.getElem?_range (by omega)]
          rfl
        refine ⟨_, rfl, _, rfl, lt, _, _, _, rfl, rfl, SqL.of hlt, atI_nat (vI_get hat), ?_⟩
        refine cnx hi ?_ ⟨rfl, _, rfl⟩
        rw [take_succ_at hwi, List.map_append, List.map_cons, List.map_nil, vI_snoc]
      · rintro σ H' l2 ⟨rfl, v, rfl⟩ nl2
        refine g.2 rfl l2 _ (s13.free nl2) ?_ (s13.next nl2)
        rw [upd_same, vI_len, List.take_length]
        rfl
theorem filt_take {f : Nat → Bool} {ws : List Nat} {i w : Nat} (h : ws[i]? = some w) : (ws.take (i + 1)).filter f = (ws.take i).filter f ++ (if f w = true then [w] else []) := by
  rw [take_succ_at h, List.filter_append]
  by_cases c : f w = true
  · rw [if_pos c, List.filter_cons, if_pos c]
    rfl
  · rw [if_neg c, List.filter_cons, if_neg c]
    rfl
def spTaken : Sp := fun vs H Q _ => ∃ (p : Nat) (a : Addr) (ws : List Nat), vs = [.int (p : Int), .ref a] ∧ H a = some (.lst (vI ws)) ∧ (∀ w ∈ ws, w < p) ∧ 1 ≤ p ∧ p ≤ 1000000 ∧ ws.length ≤ 63 ∧
  ∀ (ts : List Nat) (l : Addr) (H' : Hp), ts.Perm (Pk.tk p ws) → ts.Pairwise (· ≤ ·) → H l = none → H' l = some (.lst (vI ts)) → Same H H' → Q (.ref l) H'
theorem scTaken : FnScope ["places", "wishes"] ["places", "wishes"] (defScope sTaken) := ⟨rfl, rfl, rfl, by decide +kernel, rfl, by decide +kernel, by decide +kernel⟩
theorem d_taken (S : Src K mg "taken" sTaken ["places", "wishes"]) (B : Bt K mg) (D1 : Def P w K mg base 3 "check_street" ["places", "wishes"] spChkStreet) (D3 : Def P w K mg base 2 "stands" ["places", "wishes"] spStands) : Def P w K mg base 4 "taken" ["places", "wishes"] spTaken := by
  refine S.ok scTaken (fun vs H Q E h => ?_) (fun f cdv A outer s H vs Q E hr h => ?_)
  · obtain ⟨p, a, ws, rfl, _⟩ := h
    rfl
  · obtain ⟨p, a, ws, rfl, ha, hw, h1, h2, hlen, k⟩ := h
    have hr2 := hr.mono (show 2 ≤ 3 by decide)
    refine ⟨_, pss_cons (ps_expr (pe_callD D1 hr (by rfl) (pa_cons (pv 0) (pa_cons (pv 1) pa_nil))))
      (pss_one (ps_ret (pe_callB call_sorted (by rfl) B.sorted b_sorted (pa_cons (pe_comp (sc := defScope sTaken) ["places", "wishes"] ["place", "places"] [none, some 0] ⟨rfl, by decide +kernel, by decide +kernel, by decide +kernel, by decide +kernel, rfl, by decide +kernel⟩ rfl rfl rfl
        (pi_list (pe_callD D3 hr2 (by rfl) (pa_cons (pv 0) (pa_cons (pv 1) pa_nil)))) (fun C s H fp nd => ⟨pg_name (i := 0) nd rfl (Or.inl rfl), pts_one (pt_cmp (pc_lt (pv 0) (pv 1))), pv 0⟩)) pa_nil)))), ?_⟩
    refine ⟨_, rfl, _, rfl, p, a, ws, rfl, ha, hw, h1, h2, ?_⟩
    refine ⟨_, rfl, _, rfl, p, a, ws, rfl, ha, by omega, fun l H1 nl hl sm => ⟨l, rfl, ⟨_, SqL.of hl⟩, ?_⟩⟩
    have fl : (vI (Pk.wh p ws)).length = ws.length := by rw [vI_len, Pk.wh_len]
    refine comp_list (xs := vI (Pk.wh p ws)) (fun i => vI (((Pk.wh p ws).take i).filter fun q => decide (q < p))) (fun i σ H' => H' = H1 ∧ ∃ v, σ = [v, some (.int (p : Int))]) (by rw [fl]; exact small63 hlen) (fun i _ => ?_) rfl ⟨rfl, none, rfl⟩ (fun i σ H' e => by rw [e.1]; exact SqL.of hl) ?_ ?_
    · rw [vI_len]
      exact Nat.le_trans (List.length_filter_le _ _) (by rw [List.length_take]; omega)
    · rintro i x σ H' hx hi ⟨rfl, v, rfl⟩
      obtain ⟨q, hq, rfl⟩ := vI_at hx
      refine g_name ?_
      refine ⟨_, rfl, _, rfl, _, _, rfl, rfl, _, rfl, ite2d (fun hc => ?_) (fun hc => ?_)⟩
      · refine ⟨_, rfl, cnx hi ?_ ⟨rfl, _, rfl⟩⟩
        rw [filt_take hq, if_pos (decide_eq_true (by omega)), vI_snoc]
      · refine cnx hi ?_ ⟨rfl, _, rfl⟩
        rw [filt_take hq, if_neg (by simpa using hc), List.append_nil]
    · rintro σ H' r ⟨rfl, v, rfl⟩ nr
      have sr : Same H (upd H' r (.lst (vI (((Pk.wh p ws).take (vI (Pk.wh p ws)).length).filter fun q => decide (q < p))))) := sm.next nr
      refine ⟨r, toI (Pk.tk p ws), rfl, ?_, ?_, fun ns' q perm ord nq => ?_⟩
      · refine SqL.of ?_
        rw [upd_same, vI_len, List.take_length]
        rfl
      · rw [toI_len]
        have := List.length_filter_le (fun q => decide (q < p)) (Pk.wh p ws)
        rw [Pk.wh_len] at this
        exact Nat.lt_of_le_of_lt this (by omega)
      · obtain ⟨ts, e, pm⟩ := perm_nat perm
        subst e
        exact k ts q _ pm (rise_nat ord) (sr.free nq) upd_same (sr.next nq)
def Rz (C : Addr) (H : Hp) (E : XK) : Prop := ∀ H', Same H H' → E (.ref C) none H'
def NoL (H : Hp) (v : V) : Prop := ∀ a xs, v = .ref a → H a ≠ some (.lst xs)
def BadL (K : PySem.W.Frag) (H : Hp) (n : List V → Nat) (v : V) : Prop := NoL H v ∨ ∃ a xs, v = .ref a ∧ H a = some (.lst xs) ∧ (∀ x ∈ xs, Any K H x) ∧ (xs.all fun x => !badV (n xs) x) = false
theorem Rz.here {C : Addr} {H : Hp} {E : XK} (h : Rz C H E) : E (.ref C) none H := h H (Same.refl _)
theorem Rz.stay {C : Addr} {H H1 : Hp} {E : XK} (h : Rz C H E) (s : Same H H1) : Rz C H1 E := fun H' s' => h H' (s.trans s')
theorem NoL.stay {K : PySem.W.Frag} {H H' : Hp} {v : V} (h : NoL H v) (hv : Any K H v) (s : Same H H') : NoL H' v := by
  cases hv with
  | non => intro a xs e; cases e
  | bl b => intro a xs e; cases e
  | int i => intro a xs e; cases e
  | str x => intro a xs e; cases e
  | lst e => exact absurd e (h _ _ rfl)
  | tup e => intro a xs e2; cases e2; rw [s _ _ e]; intro z; cases z
theorem BadL.stay {K : PySem.W.Frag} {H H' : Hp} {n : List V → Nat} {v : V} (h : BadL K H n v) (hv : Any K H v) (s : Same H H') : BadL K H' n v := by
  rcases h with h | ⟨a, xs, e, ha, hx, hb⟩
  · exact .inl (h.stay hv s)
  · exact .inr ⟨a, xs, e, s _ _ ha, fun x m => (hx x m).stay s, hb⟩
def spBadSt (K : PySem.W.Frag) (CW : Addr) : Sp := fun vs H Q E => ∃ v u, vs = [v, u] ∧ Any K H v ∧ Any K H u ∧ (stV v = false ∨ ∃ p : Nat, v = .int (p : Int) ∧ BadL K H (fun _ => p) u) ∧ Rz CW H E
theorem lenBadSt {K : PySem.W.Frag} {CW : Addr} {n1 n2 : Str} : ∀ vs H Q E, spBadSt K CW vs H Q E → vs.length = [n1, n2].length := fun vs H Q E ⟨v, u, e, _⟩ => by rw [e]; rfl
theorem d_chkstreetX {CW : Addr} (S : Src K mg "check_street" sChkStreet ["places", "wishes"]) (B : Bt K mg) (xw : XC K CW) (mw : mg "BadWishes" = some (.ref CW)) (D1 : Def P w K mg base 2 "is_street" ["places"] (spIsStreet K)) (D2 : Def P w K mg base 2 "is_each_below" ["bound", "things"] (spEachB K)) :
    DefX P w K mg base 3 "check_street" ["places", "wishes"] (spBadSt K CW) := by
  refine S.okX scChkStreet lenBadSt (fun f cdv A outer s H vs Q E hr h => ?_)
  obtain ⟨v, u, rfl, hv, hu, bad, rz⟩ := h
  obtain ⟨ty, bb, hty, e1, e2, e3⟩ := hu.isL
  refine ⟨_, pss_cons (ps_if (pt_not (pt_val (pe_callD D1 hr (by rfl) (pa_cons (pv 0) pa_nil)))) (pss_one (ps_raise xw rfl (by rfl) mw makes1 (pa_cons pe_str pa_nil))) pss_nil)
    (pss_one (ps_if (pw_or (pt_not (pt_val (pe_callB call_isi (by rfl) B.isi b_isi (pa_cons (pv 1) (pa_cons (pe_bltn (v := .ty "list") (by rfl) B.list b_list rfl) pa_nil))))) (pw_or1 (pt_not (pt_val (pe_callD D2 hr (by rfl) (pa_cons (pv 0) (pa_cons (pv 1) pa_nil))))))).pt (pss_one (ps_raise xw rfl (by rfl) mw makes1 (pa_cons pe_str pa_nil))) pss_nil)), ?_⟩
  refine ⟨_, rfl, v, rfl, hv, _, rfl, ?_⟩
  cases es : stV v with
  | false => exact iteT ⟨by decide, rz.here⟩
  | true =>
    refine iteF ?_
    obtain ⟨p, rfl, bad1⟩ := bad.resolve_left (by rw [es]; simp)
    refine ⟨_, rfl, _, _, _, _, _, rfl, hty, .inl ⟨_, rfl, rfl⟩, e1, _, rfl, ?_⟩
    cases bb with
    | false => exact iteT ⟨by decide, rz.here⟩
    | true =>
      obtain ⟨a, xs, rfl, ha⟩ := e2 rfl
      have bad2 : NoL H (.ref a) ∨ ∃ a' xs', V.ref a = .ref a' ∧ H a' = some (.lst xs') ∧ (∀ x ∈ xs', Any K H x) ∧ (xs'.all fun x => !badV p x) = false := bad1
      rcases bad2 with bad2 | ⟨a', xs', e, ha', hx, hb⟩
      · exact absurd ha (bad2 _ _ rfl)
      cases e
      rw [ha] at ha'
      cases ha'
      refine iteF ?_
      refine ⟨_, rfl, _, rfl, p, a, xs, rfl, ha, hx, _, rfl, ?_⟩
      rw [hb]
      exact iteT ⟨by decide, rz.here⟩
theorem door_x {CW : Addr} {x : Str} {st : Stmt} {rest : List Stmt} {p1 p2 p3 p4 p5 : Pos} (S : Src K mg x st ["places", "wishes"]) (sc : FnScope ["places", "wishes"] ["places", "wishes"] (defScope st)) (D1 : DefX P w K mg base 3 "check_street" ["places", "wishes"] (spBadSt K CW))
    (hb : defBody st = .Expr (.Call (.Name "check_street" p1) [.Name "places" p2, .Name "wishes" p3] [] p4) p5 :: rest) (hg : List.lookup (Str.ofString "check_street") (defScope st).names = some .globalImplicit)
    (h1 : Vis (defScope st) "places") (h2 : Vis (defScope st) "wishes") : DefX P w K mg base 4 x ["places", "wishes"] (spBadSt K CW) := by
  refine S.okX sc lenBadSt (fun f cdv A outer s H vs Q E hr h => ?_)
  obtain ⟨v, u, rfl, hv, hu, bad, rz⟩ := h
  rw [hb]
  refine ⟨_, pss_cons (ps_expr (pe_callX D1 hr hg (pass1 fun _ _ _ q => q) (pa_cons (pv 0 rfl h1) (pa_cons (pv 1 rfl h2) pa_nil)))) pss_never, ?_⟩
  exact ⟨_, rfl, _, rfl, v, u, rfl, hv, hu, bad, rz⟩
theorem d_parkedX {CW : Addr} (S : Src K mg "parked" sParked ["places", "wishes"]) (D1 : DefX P w K mg base 3 "check_street" ["places", "wishes"] (spBadSt K CW)) : DefX P w K mg base 4 "parked" ["places", "wishes"] (spBadSt K CW) :=
  door_x S ⟨rfl, rfl, rfl, by decide +kernel, rfl, by decide +kernel, by decide +kernel⟩ D1 rfl rfl (.inl rfl) (.inl rfl)
theorem d_takenX {CW : Addr} (S : Src K mg "taken" sTaken ["places", "wishes"]) (D1 : DefX P w K mg base 3 "check_street" ["places", "wishes"] (spBadSt K CW)) : DefX P w K mg base 4 "taken" ["places", "wishes"] (spBadSt K CW) :=
  door_x S ⟨rfl, rfl, rfl, by decide +kernel, rfl, by decide +kernel, by decide +kernel⟩ D1 rfl rfl (.inr (.inl rfl)) (.inl rfl)
theorem d_offX {CW : Addr} (S : Src K mg "driven_off" sOff ["places", "wishes"]) (D1 : DefX P w K mg base 3 "check_street" ["places", "wishes"] (spBadSt K CW)) : DefX P w K mg base 4 "driven_off" ["places", "wishes"] (spBadSt K CW) :=
  door_x S ⟨rfl, rfl, rfl, by decide +kernel, rfl, by decide +kernel, by decide +kernel⟩ D1 rfl rfl (.inr (.inl rfl)) (.inl rfl)
theorem d_luckyX {CW : Addr} (S : Src K mg "lucky" sLucky ["places", "wishes"]) (D1 : DefX P w K mg base 3 "check_street" ["places", "wishes"] (spBadSt K CW)) : DefX P w K mg base 4 "lucky" ["places", "wishes"] (spBadSt K CW) :=
  door_x S ⟨rfl, rfl, rfl, by decide +kernel, rfl, by decide +kernel, by decide +kernel⟩ D1 rfl rfl (.inl rfl) (.inr (.inl rfl))
theorem d_ringX {CW : Addr} (S : Src K mg "ring" sRing ["places", "wishes"]) (D1 : DefX P w K mg base 3 "check_street" ["places", "wishes"] (spBadSt K CW)) : DefX P w K mg base 4 "ring" ["places", "wishes"] (spBadSt K CW) :=
  door_x S ⟨rfl, rfl, rfl, by decide +kernel, rfl, by decide +kernel, by decide +kernel⟩ D1 rfl rfl (.inl rfl) (.inl rfl)
theorem d_writtenX {CW : Addr} (S : Src K mg "written" sWritten ["places", "wishes"]) (D1 : DefX P w K mg base 3 "check_street" ["places", "wishes"] (spBadSt K CW)) : DefX P w K mg base 4 "written" ["places", "wishes"] (spBadSt K CW) :=
  door_x S ⟨rfl, rfl, rfl, by decide +kernel, rfl, by decide +kernel, by decide +kernel⟩ D1 rfl rfl (.inl rfl) (.inl rfl)
def spBadC (K : PySem.W.Frag) (CW : Addr) : Sp := fun vs H Q E => ∃ (v : V) (m : Nat), vs = [v, .int (m : Int)] ∧ Any K H v ∧ BadL K H (fun xs => xs.length + m) v ∧ Rz CW H E
theorem d_bycarsX {CW : Addr} (S : Src K mg "check_by_cars" sByCars ["wishes", "more"]) (xw : XC K CW) (mw : mg "BadWishes" = some (.ref CW)) (D1 : Def P w K mg base 3 "is_list_below_its_length" ["things", "more"] (spListB K)) :
    DefX P w K mg base 4 "check_by_cars" ["wishes", "more"] (spBadC K CW) := by
  refine S.okX (N := ["wishes", "more"]) ⟨rfl, rfl, rfl, by decide +kernel, rfl, by decide +kernel, by decide +kernel⟩ (fun vs H Q E ⟨v, m, e, _⟩ => by rw [e]; rfl) (fun f cdv A outer s H vs Q E hr h => ?_)
  obtain ⟨v, m, rfl, hv, bad, rz⟩ := h
  refine ⟨_, pss_one (ps_if (pt_not (pt_val (pe_callD D1 hr (by rfl) (pa_cons (pv 0) (pa_cons (pv 1) pa_nil))))) (pss_one (ps_raise xw rfl (by rfl) mw makes1 (pa_cons pe_str pa_nil))) pss_nil), ?_⟩
  refine ⟨_, rfl, _, rfl, v, m, rfl, hv, fun a xs e ha => ?_, fun no => ⟨_, rfl, iteT ⟨by decide, rz.here⟩⟩⟩
  subst e
  rcases bad with bad | ⟨a', xs', e, ha', hx, hb⟩
  · exact absurd ha (bad _ _ rfl)
  cases e
  rw [ha] at ha'
  cases ha'
  refine ⟨hx, _, rfl, ?_⟩
  rw [hb]
  exact iteT ⟨by decide, rz.here⟩
def spBadF (K : PySem.W.Frag) (CW CM : Addr) : Sp := fun vs H Q E => ∃ (v : V) (C : Addr), vs = [v] ∧ Any K H v ∧ ((BadL K H (fun xs => xs.length + 0) v ∧ C = CW) ∨ ∃ a ws, v = .ref a ∧ H a = some (.lst (vI ws)) ∧ ws.length ≤ 63 ∧ (∀ w ∈ ws, w < ws.length) ∧ ¬ Pk.FullL ws.length ws ∧ C = CM) ∧ Rz C H E
theorem lenBadF {K : PySem.W.Frag} {CW CM : Addr} {n : Str} : ∀ vs H Q E, spBadF K CW CM vs H Q E → vs.length = [n].length := fun vs H Q E ⟨v, C, e, _⟩ => by rw [e]; rfl
theorem d_chkfullX {CW CM : Addr} (S : Src K mg "check_full" sChkFull ["wishes"]) (B : Bt K mg) (D0 : DefX P w K mg base 4 "check_by_cars" ["wishes", "more"] (spBadC K CW)) : DefX P w K mg base 5 "check_full" ["wishes"] (fun vs H Q E => ∃ v, vs = [v] ∧ Any K H v ∧ BadL K H (fun xs => xs.length + 0) v ∧ Rz CW H E) := by
  refine S.okX scChkFull (fun vs H Q E ⟨v, e, _⟩ => by rw [e]; rfl) (fun f cdv A outer s H vs Q E hr h => ?_)
  obtain ⟨v, rfl, hv, bad, rz⟩ := h
  refine ⟨_, pss_cons (ps_expr (pe_callX D0 hr (by rfl) (pass1 fun _ _ _ q => q) (pa_cons (pv 0) (pa_cons pe_int pa_nil)))) pss_never, ?_⟩
  exact ⟨_, rfl, v, 0, rfl, hv, bad, rz⟩
theorem full_x {CW CM : Addr} {x : Str} {st : Stmt} {rest : List Stmt} {p1 p2 p3 p4 : Pos} (ok : ∀ {k : Nat} {sp : Sp}, FnScope ["wishes"] ["wishes"] (defScope st) → (∀ vs H Q E, sp vs H Q E → vs.length = [Str.ofString "wishes"].length) → (∀ (f : Addr) (cdv : Value) (A : Around) (outer : List Env) (s : Shared) (H : Hp) (vs : List V) (Q : VK) (E : XK), Room k (A.deeper (PyProof.Rows.envOfC x (defScope st) s.heap.objs.size f cdv)) → sp vs H Q E →
      ∃ t, PSs (cxOf (CX1 P w) P w K mg base ["wishes"] x (defScope st) f cdv A outer s H E) (defBody st) t ∧ t { nx := fun _ H' => Q .non H', rt := Q } (start ["wishes"] vs) H) → DefX P w K mg base (k + 1) x ["wishes"] sp)
    (sc : FnScope ["wishes"] ["wishes"] (defScope st)) (D1 : DefX P w K mg base 5 "check_full" ["wishes"] (fun vs H Q E => ∃ v, vs = [v] ∧ Any K H v ∧ BadL K H (fun xs => xs.length + 0) v ∧ Rz CW H E)) (D2 : DefX P w K mg base 5 "check_full" ["wishes"] (spChkFull CM))
    (hb : defBody st = .Expr (.Call (.Name "check_full" p1) [.Name "wishes" p2] [] p3) p4 :: rest) (hg : List.lookup (Str.ofString "check_full") (defScope st).names = some .globalImplicit) (h1 : Vis (defScope st) "wishes") : DefX P w K mg base 6 x ["wishes"] (spBadF K CW CM) := by
  refine ok sc lenBadF (fun f cdv A outer s H vs Q E hr h => ?_)
  obtain ⟨v, C, rfl, hv, bad, rz⟩ := h
  rw [hb]
  rcases bad with ⟨bad, rfl⟩ | ⟨a, ws, rfl, ha, hlen, hw, nf, rfl⟩
  · refine ⟨_, pss_cons (ps_expr (pe_callX D1 hr hg (pass1 fun _ _ _ q => q) (pa_cons (pv 0 rfl h1) pa_nil))) pss_never, ?_⟩
    exact ⟨_, rfl, v, rfl, hv, bad, rz⟩
  · refine ⟨_, pss_cons (ps_expr (pe_callX D2 hr hg (pass1 fun _ _ _ q => q) (pa_cons (pv 0 rfl h1) pa_nil))) pss_never, ?_⟩
    exact ⟨_, rfl, a, ws, rfl, ha, hlen, hw, fun z => absurd z nf, fun _ H' sm => rz H' sm⟩
theorem d_drivesX {CW CM : Addr} (S : Src K mg "drives" sDrives ["wishes"]) (D1 : DefX P w K mg base 5 "check_full" ["wishes"] (fun vs H Q E => ∃ v, vs = [v] ∧ Any K H v ∧ BadL K H (fun xs => xs.length + 0) v ∧ Rz CW H E)) (D2 : DefX P w K mg base 5 "check_full" ["wishes"] (spChkFull CM)) : DefX P w K mg base 6 "drives" ["wishes"] (spBadF K CW CM) :=
  full_x (fun sc len hb => S.okX sc len hb) ⟨rfl, rfl, rfl, by decide +kernel, rfl, by decide +kernel, by decide +kernel⟩ D1 D2 rfl rfl (.inl rfl)
theorem d_pathX {CW CM : Addr} (S : Src K mg "path" sPath ["wishes"]) (D1 : DefX P w K mg base 5 "check_full" ["wishes"] (fun vs H Q E => ∃ v, vs = [v] ∧ Any K H v ∧ BadL K H (fun xs => xs.length + 0) v ∧ Rz CW H E)) (D2 : DefX P w K mg base 5 "check_full" ["wishes"] (spChkFull CM)) : DefX P w K mg base 6 "path" ["wishes"] (spBadF K CW CM) :=
  full_x (fun sc len hb => S.okX sc len hb) ⟨rfl, rfl, rfl, by decide +kernel, rfl, by decide +kernel, by decide +kernel⟩ D1 D2 rfl rfl (.inl rfl)
theorem d_treeX {CW CM pt : Addr} (S : SrcL K mg "tree" sTree ["wishes"] pt) (D1 : DefX P w K mg base 5 "check_full" ["wishes"] (fun vs H Q E => ∃ v, vs = [v] ∧ Any K H v ∧ BadL K H (fun xs => xs.length + 0) v ∧ Rz CW H E)) (D2 : DefX P w K mg base 5 "check_full" ["wishes"] (spChkFull CM)) : DefX P w K mg base 6 "tree" ["wishes"] (spBadF K CW CM) :=
  full_x (fun sc len hb => S.okX sc len (fun f cc A outer s H vs Q E _ hr h => hb f (.ref cc) A outer s H vs Q E hr h)) ⟨rfl, rfl, rfl, by decide +kernel, rfl, by decide +kernel, by decide +kernel⟩ D1 D2 rfl rfl (.inr (.inl rfl))
def spBadTn (K : PySem.W.Frag) (CW : Addr) : Sp := fun vs H Q E => ∃ v, vs = [v] ∧ Any K H v ∧ BadL K H (fun xs => xs.length + 1) v ∧ Rz CW H E
theorem d_turningX {CW : Addr} (S : Src K mg "turning" sTurning ["wishes"]) (D0 : DefX P w K mg base 4 "check_by_cars" ["wishes", "more"] (spBadC K CW)) : DefX P w K mg base 5 "turning" ["wishes"] (spBadTn K CW) := by
  refine S.okX (N := ["wishes"]) ⟨rfl, rfl, rfl, by decide +kernel, rfl, by decide +kernel, by decide +kernel⟩ (fun vs H Q E ⟨v, e, _⟩ => by rw [e]; rfl) (fun f cdv A outer s H vs Q E hr h => ?_)
  obtain ⟨v, rfl, hv, bad, rz⟩ := h
  refine ⟨_, pss_cons (ps_expr (pe_callX D0 hr (by rfl) (pass1 fun _ _ _ q => q) (pa_cons (pv 0) (pa_cons pe_int pa_nil)))) pss_never, ?_⟩
  exact ⟨_, rfl, v, 1, rfl, hv, bad, rz⟩
def spBadTd (K : PySem.W.Frag) (CW : Addr) : Sp := fun vs H Q E => ∃ (a : Addr) (ws : List Nat) (v : V), vs = [.ref a, v] ∧ H a = some (.lst (vI ws)) ∧ (∀ w ∈ ws, w < ws.length + 1) ∧ Any K H v ∧ numV v = false ∧ Rz CW H E
theorem d_turnedX {CW : Addr} (S : Src K mg "turned" sTurned ["wishes", "by"]) (xw : XC K CW) (mw : mg "BadWishes" = some (.ref CW)) (D0 : Def P w K mg base 1 "is_number" ["thing"] (spIsNumG K)) (D1 : Def P w K mg base 4 "check_by_cars" ["wishes", "more"] spByCars) : DefX P w K mg base 5 "turned" ["wishes", "by"] (spBadTd K CW) := by
  refine S.okX scTurned (fun vs H Q E ⟨a, ws, v, e, _⟩ => by rw [e]; rfl) (fun f cdv A outer s H vs Q E hr h => ?_)
  obtain ⟨a, ws, v, rfl, ha, hw, hv, hn, rz⟩ := h
  have hr1 := hr.mono (show 1 ≤ 4 by decide)
  refine ⟨_, pss_cons (ps_expr (pe_callD D1 hr (by rfl) (pa_cons (pv 0) (pa_cons pe_int pa_nil))))
    (pss_cons (ps_if (pt_not (pt_val (pe_callD D0 hr1 (by rfl) (pa_cons (pv 1) pa_nil)))) (pss_one (ps_raise xw rfl (by rfl) mw makes1 (pa_cons pe_str pa_nil))) pss_nil) pss_never), ?_⟩
  refine ⟨_, rfl, a, 1, ws, rfl, ha, hw, ?_⟩
  refine ⟨_, rfl, v, rfl, hv, _, rfl, ?_⟩
  rw [hn]
  exact iteT ⟨by decide, rz.here⟩
def BadS (K : PySem.W.Frag) (H : Hp) (v : V) : Prop := BadL K H (fun xs => xs.length + 0) v ∨ ∃ a, v = .ref a ∧ H a = some (.lst [.int 0, .int 0])
theorem BadS.stay {K : PySem.W.Frag} {H H' : Hp} {v : V} (h : BadS K H v) (hv : Any K H v) (s : Same H H') : BadS K H' v := by
  rcases h with h | ⟨a, e, ha⟩
  · exact .inl (h.stay hv s)
  · exact .inr ⟨a, e, s _ _ ha⟩
def spBadSd (K : PySem.W.Frag) (CD : Addr) : Sp := fun vs H Q E => ∃ v, vs = [v] ∧ Any K H v ∧ BadS K H v ∧ Rz CD H E
theorem lenBadSd {K : PySem.W.Frag} {CD : Addr} {n : Str} : ∀ vs H Q E, spBadSd K CD vs H Q E → vs.length = [n].length := fun vs H Q E ⟨v, e, _⟩ => by rw [e]; rfl
theorem d_chkstX {CD : Addr} (S : Src K mg "check_standing" sChkSt ["standing"]) (B : Bt K mg) (B3 : Bt3 mg) (xd : XC K CD) (md : mg "BadStanding" = some (.ref CD)) (D1 : Def P w K mg base 3 "is_list_below_its_length" ["things", "more"] (spListB K)) : DefX P w K mg base 4 "check_standing" ["standing"] (spBadSd K CD) := by
  refine S.okX scChkSt lenBadSd (fun f cdv A outer s H vs Q E hr h => ?_)
  obtain ⟨v, rfl, hv, bad, rz⟩ := h
  refine ⟨_, pss_one (ps_if (pw_or (pt_not (pt_val (pe_callD D1 hr (by rfl) (pa_cons (pv 0) (pa_cons pe_int pa_nil))))) (pw_or1 (pt_cmp (pc_lt (pe_callB call_len_setI (by rfl) B.len b_len (pa_cons (pe_callTy (call_setL rfl) (by rfl) B3.set b_set (pa_cons (pv 0) pa_nil)) pa_nil)) (pe_callB call_len_seq (by rfl) B.len b_len (pa_cons (pv 0) pa_nil)))))).pt (pss_one (ps_raise xd rfl (by rfl) md makes1 (pa_cons pe_str pa_nil))) pss_nil), ?_⟩
  refine ⟨_, rfl, v, 0, rfl, hv, fun a xs e ha => ?_, fun no => ⟨_, rfl, iteT ⟨by decide, rz.here⟩⟩⟩
  subst e
  rcases bad with (bad | ⟨a', xs', e, ha', hx, hb⟩) | ⟨a', e, ha'⟩
  · exact absurd ha (bad _ _ rfl)
  · cases e
    rw [ha] at ha'
    cases ha'
    refine ⟨hx, _, rfl, ?_⟩
    rw [hb]
    exact iteT ⟨by decide, rz.here⟩
  · cases e
    rw [ha] at ha'
    cases ha'
    refine ⟨anyI K H [0, 0], _, rfl, ?_⟩
    rw [show ([V.int 0, V.int 0].all fun x => !badV ([V.int 0, V.int 0].length + 0) x) = true from rfl]
    refine iteF ?_
    refine ⟨_, rfl, a, [0, 0], rfl, SqL.of ha, by decide, fun S' p np => ?_⟩
    refine ⟨p, _, _, rfl, upd_same, ?_⟩
    have sm : Same H (upd H p (.set S' (dst [0, 0]))) := Same.new np
    refine ⟨_, rfl, a, _, rfl, .inl (SqL.of (sm _ _ ha)), _, _, rfl, rfl, _, rfl, iteTd ?_ ⟨by decide, rz _ sm⟩⟩
    show ((dst [0, 0] : Nat) : Int) < ((2 : Nat) : Int)
    decide
theorem d_reachesX {CD : Addr} (S : Src K mg "reaches" sReaches ["standing"]) (D1 : DefX P w K mg base 4 "check_standing" ["standing"] (spBadSd K CD)) : DefX P w K mg base 5 "reaches" ["standing"] (spBadSd K CD) := by
  refine S.okX (N := ["standing"]) ⟨rfl, rfl, rfl, by decide +kernel, rfl, by decide +kernel, by decide +kernel⟩ lenBadSd (fun f cdv A outer s H vs Q E hr h => ?_)
  obtain ⟨v, rfl, hv, bad, rz⟩ := h
  refine ⟨_, pss_cons (ps_expr (pe_callX D1 hr (by rfl) (pass1 fun _ _ _ q => q) (pa_cons (pv 0) pa_nil))) pss_never, ?_⟩
  exact ⟨_, rfl, v, rfl, hv, bad, rz⟩
theorem d_howmanyX {CD : Addr} (S : Src K mg "how_many" sHowMany ["standing"]) (B : Bt K mg) (D1 : DefX P w K mg base 5 "reaches" ["standing"] (spBadSd K CD)) (D2 : Def P w K mg base 1 "product" ["factors"] spProduct) : DefX P w K mg base 6 "how_many" ["standing"] (spBadSd K CD) := by
  refine S.okX scHowMany lenBadSd (fun f cdv A outer s H vs Q E hr h => ?_)
  obtain ⟨v, rfl, hv, bad, rz⟩ := h
  have hr1 := hr.mono (show 1 ≤ 5 by decide)
  refine ⟨_, pss_one (ps_ret (pe_callD D2 hr1 (by rfl) (pa_cons (pe_comp (sc := defScope sHowMany) ["standing"] ["place", "reach"] [none, none] ⟨rfl, by decide +kernel, by decide +kernel, by decide +kernel, by decide +kernel, rfl, by decide +kernel⟩ rfl rfl rfl
      (pi_enum (by rfl) B.enum (pa_cons (pe_callX D1 hr (by rfl) (pass1 fun _ _ _ q => q) (pa_cons (pv 0) pa_nil)) pa_nil))
      (fun C s H fp nd => ⟨pg_tupK (K := K) (n := 2) rfl rfl (pgs_cons (pg_name (i := 0) nd rfl (Or.inl rfl)) (pgs_cons (pg_name (i := 1) nd rfl (Or.inl rfl)) pgs_nil)), pts_nil, pe_op op_add (pe_op op_sub (pv 0) (pv 1)) pe_int⟩)) pa_nil))), ?_⟩
  exact ⟨_, rfl, v, rfl, hv, bad, rz⟩
def spBadFs (K : PySem.W.Frag) (CD : Addr) : Sp := fun vs H Q E => ∃ v u, vs = [v, u] ∧ Any K H v ∧ BadS K H v ∧ Rz CD H E
theorem d_fromstepsX {CD : Addr} (S : Src K mg "from_steps" sFromSteps ["standing", "steps"]) (B : Bt K mg) (D1 : DefX P w K mg base 5 "reaches" ["standing"] (spBadSd K CD)) (D2 : DefX P w K mg base 2 "check_steps" ["most", "steps"] (spChkSteps K CD)) : DefX P w K mg base 6 "from_steps" ["standing", "steps"] (spBadFs K CD) := by
  refine S.okX (N := ["standing", "steps"]) ⟨rfl, rfl, rfl, by decide +kernel, rfl, by decide +kernel, by decide +kernel⟩ (fun vs H Q E ⟨v, u, e, _⟩ => by rw [e]; rfl) (fun f cdv A outer s H vs Q E hr h => ?_)
  obtain ⟨v, u, rfl, hv, bad, rz⟩ := h
  have hr2 := hr.mono (show 2 ≤ 5 by decide)
  refine ⟨_, pss_cons (ps_expr (pe_callX D2 hr2 (by rfl) (pass1 fun _ _ _ q => q) (pa_cons (pe_comp (sc := defScope sFromSteps) ["standing", "steps"] ["place", "reach"] [none, none] ⟨rfl, by decide +kernel, by decide +kernel, by decide +kernel, by decide +kernel, rfl, by decide +kernel⟩ rfl rfl rfl
        (pi_enum (by rfl) B.enum (pa_cons (pe_callX D1 hr (by rfl) (pass1 fun _ _ _ q => q) (pa_cons (pv 0) pa_nil)) pa_nil))
        (fun C s H fp nd => ⟨pg_tupK (K := K) (n := 2) rfl rfl (pgs_cons (pg_name (i := 0) nd rfl (Or.inl rfl)) (pgs_cons (pg_name (i := 1) nd rfl (Or.inl rfl)) pgs_nil)), pts_nil, pe_op op_sub (pv 0) (pv 1)⟩)) (pa_cons (pv 1) pa_nil)))) pss_never, ?_⟩
  exact ⟨_, rfl, v, rfl, hv, bad, rz⟩
def BadP (K : PySem.W.Frag) (H : Hp) (ms : List Nat) (v : V) : Prop := NoL H v ∨ ∃ a xs, v = .ref a ∧ H a = some (.lst xs) ∧ (∀ x ∈ xs, Any K H x) ∧ xs.length ≤ 900 ∧ (xs.length ≠ ms.length ∨ ∃ (i : Nat) (x : V) (m : Nat), xs[i]? = some x ∧ ms[i]? = some m ∧ badS m x = true)
def spBadFp (K : PySem.W.Frag) (CD : Addr) : Sp := fun vs H Q E => ∃ (a : Addr) (st : List Nat) (v : V), vs = [.ref a, v] ∧ H a = some (.lst (vI st)) ∧ st.length ≤ 63 ∧ Pk.Stn st.length st ∧ Any K H v ∧ BadP K H (mst st st.length) v ∧ Rz CD H E
theorem d_fromstepsP {CD : Addr} (S : Src K mg "from_steps" sFromSteps ["standing", "steps"]) (B : Bt K mg) (D1 : Def P w K mg base 5 "reaches" ["standing"] spReaches) (D2 : DefX P w K mg base 2 "check_steps" ["most", "steps"] (spChkSteps K CD)) : DefX P w K mg base 6 "from_steps" ["standing", "steps"] (spBadFp K CD) := by
  refine S.okX (N := ["standing", "steps"]) ⟨rfl, rfl, rfl, by decide +kernel, rfl, by decide +kernel, by decide +kernel⟩ (fun vs H Q E ⟨a, st, v, e, _⟩ => by rw [e]; rfl) (fun f cdv A outer s H vs Q E hr h => ?_)
  obtain ⟨a, st, v, rfl, ha, hlen, T, hv, bad, rz⟩ := h
  have hr2 := hr.mono (show 2 ≤ 5 by decide)
  refine ⟨_, pss_cons (ps_expr (pe_callX D2 hr2 (by rfl) (pass1 fun _ _ _ q => q) (pa_cons (pe_comp (sc := defScope sFromSteps) ["standing", "steps"] ["place", "reach"] [none, none] ⟨rfl, by decide +kernel, by decide +kernel, by decide +kernel, by decide +kernel, rfl, by decide +kernel⟩ rfl rfl rfl
        (pi_enum (by rfl) B.enum (pa_cons (pe_callD D1 hr (by rfl) (pa_cons (pv 0) pa_nil)) pa_nil))
        (fun C s H fp nd => ⟨pg_tupK (K := K) (n := 2) rfl rfl (pgs_cons (pg_name (i := 0) nd rfl (Or.inl rfl)) (pgs_cons (pg_name (i := 1) nd rfl (Or.inl rfl)) pgs_nil)), pts_nil, pe_op op_sub (pv 0) (pv 1)⟩)) (pa_cons (pv 1) pa_nil)))) pss_never, ?_⟩
  refine ⟨_, rfl, a, st, rfl, ha, hlen, T, fun l H1 nl hl sm => ?_⟩
  refine ⟨l, rfl, ⟨_, SqL.of hl⟩, ?_⟩
  refine comp_enum (c := 0) (xs := vI (rcs st st.length)) (fun i => vI (mst st i)) (fun i σ H2 => Same H1 H2 ∧ σ.length = 2) (by rw [vI_len, rcs_len]; exact small63 hlen) (fun i _ => by rw [vI_len, mst_len]; exact Nat.le_refl _) rfl ⟨Same.refl _, rfl⟩ (fun i σ H2 e => SqL.of (e.1 _ _ hl)) ?_ ?_
  · rintro i x σ H2 p hx hi ⟨sm2, hσ⟩ np
    obtain ⟨r, hr', rfl⟩ := vI_at hx
    rw [vI_len, rcs_len] at hi
    rw [rcs_at hi] at hr'
    cases hr'
    match σ, hσ with
    | [v0, v1], _ =>
      have le := Pk.rch_le st i
      refine ⟨p, _, rfl, SqT.of upd_same, rfl, _, _, rfl, ?_⟩
      refine ⟨_, _, rfl, ?_⟩
      refine ⟨rfl, ?_⟩
      refine t_true ?_
      refine iteT ?_
      refine ⟨_, rfl, _, rfl, _, _, rfl, rfl, cnx (by rw [vI_len, rcs_len]; exact hi) ?_ ⟨sm2.next np, rfl⟩⟩
      have e : ((i + 0 : Nat) : Int) - ((Pk.rch st i : Nat) : Int) = ((i - Pk.rch st i : Nat) : Int) := by omega
      show _ ++ [V.int (((i + 0 : Nat) : Int) - ((Pk.rch st i : Nat) : Int))] = _
      rw [e, mst_succ, vI_snoc]
  · rintro σ H2 p ⟨sm2, _⟩ np
    rw [vI_len, rcs_len]
    have s3 : Same H (upd H2 p (.lst (vI (mst st st.length)))) := (sm.trans sm2).next np
    have hv3 := hv.stay s3
    refine ⟨_, rfl, p, mst st st.length, v, rfl, upd_same, by rw [mst_len]; omega, hv3, fun a' ys e1 e2 => ?_, fun no => rz _ s3⟩
    rcases bad with bad | ⟨b, xs, e, hb, hx, xl, hbad⟩
    · exact absurd e2 ((bad.stay hv s3) _ _ e1)
    · rw [e] at e1
      cases e1
      have hb3 := s3 _ _ hb
      rw [hb3] at e2
      cases e2
      refine ⟨fun x m => (hx x m).stay s3, xl, fun good => ?_, fun _ H4 s4 => rz _ (s3.trans s4)⟩
      exfalso
      rcases hbad with z | ⟨i, x, m, h1, h2, h3⟩
      · exact z good.1
      · rw [good.2 i x m h1 h2] at h3
        cases h3
theorem at_door {k : Nat} {ps : List Str} {sp : Sp} {fs : List Addr} (h : ∀ f ∈ fs, FnAt P w K mg base k f ps sp) {d : Nat} (hd : d < fs.length) : ∃ f, (fs.map V.ref)[d]? = some (.ref f) ∧ FnAt P w K mg base k f ps sp :=
  ⟨fs[d], by rw [List.getElem?_map, List.getElem?_eq_getElem hd]; rfl, h _ (List.getElem_mem hd)⟩
theorem fnAt_mono {P : Program} {w : World} {K : PySem.W.Frag} {mg : Str → Option Value} {base : Heap} {j k : Nat} {f : Addr} {ps : List Str} {sp : Sp} (F : FnAt P w K mg base j f ps sp) (h : j ≤ k) : FnAt P w K mg base k f ps sp := by
  obtain ⟨fd, h1, h2, h3⟩ := F
  exact ⟨fd, h1, h2, h3.mono h⟩
theorem pick {xs : List V} {k : Nat} (h : k < xs.length) : ∃ v, atI xs (k : Int) = some v ∧ v ∈ xs := ⟨xs[k], atI_nat (List.getElem?_eq_getElem h), List.getElem_mem h⟩
def spStreetL (K : PySem.W.Frag) (CW : Addr) : Sp := fun vs H Q E => ∃ (d : Nat) (v u : V), vs = [.int (d : Int), v, u] ∧ d < 6 ∧ Any K H v ∧ Any K H u ∧ (stV v = false ∨ ∃ p : Nat, v = .int (p : Int) ∧ BadL K H (fun _ => p) u) ∧ Rz CW H E
theorem scStreetL : FnScope ["_law_door", "_law_places", "_law_wishes"] ["_law_door", "_law_places", "_law_wishes"] (defScope sStreetL) := ⟨rfl, rfl, rfl, by decide +kernel, rfl, by decide +kernel, by decide +kernel⟩
theorem d_streetl {CW : Addr} (S : Src K mg "_law_street" sStreetL ["_law_door", "_law_places", "_law_wishes"]) (D0 : DefX P w K mg base 4 "parked" ["places", "wishes"] (spBadSt K CW)) (D1 : DefX P w K mg base 4 "taken" ["places", "wishes"] (spBadSt K CW)) (D2 : DefX P w K mg base 4 "driven_off" ["places", "wishes"] (spBadSt K CW))
    (D3 : DefX P w K mg base 4 "lucky" ["places", "wishes"] (spBadSt K CW)) (D4 : DefX P w K mg base 4 "ring" ["places", "wishes"] (spBadSt K CW)) (D5 : DefX P w K mg base 4 "written" ["places", "wishes"] (spBadSt K CW)) : DefX P w K mg base 5 "_law_street" ["_law_door", "_law_places", "_law_wishes"] (spStreetL K CW) := by
  obtain ⟨f0, m0, F0⟩ := D0.at
  obtain ⟨f1, m1, F1⟩ := D1.at
  obtain ⟨f2, m2, F2⟩ := D2.at
  obtain ⟨f3, m3, F3⟩ := D3.at
  obtain ⟨f4, m4, F4⟩ := D4.at
  obtain ⟨f5, m5, F5⟩ := D5.at
  refine S.okX scStreetL (fun vs H Q E ⟨d, v, u, e, _⟩ => by rw [e]; rfl) (fun f cdv A outer s H vs Q E hr h => ?_)
  obtain ⟨d, v, u, rfl, hd, hv, hu, bad, rz⟩ := h
  refine ⟨_, pss_one (ps_ret (pe_callS (pe_ix ix_list (gE (qL (qaN ⟨pe_glob (v := .ref f0) (by rfl) m0 rfl⟩ (qaN ⟨pe_glob (v := .ref f1) (by rfl) m1 rfl⟩ (qaN ⟨pe_glob (v := .ref f2) (by rfl) m2 rfl⟩ (qaN ⟨pe_glob (v := .ref f3) (by rfl) m3 rfl⟩ (qaN ⟨pe_glob (v := .ref f4) (by rfl) m4 rfl⟩ (qaN ⟨pe_glob (v := .ref f5) (by rfl) m5 rfl⟩ q0)))))))) (pv 0) (fun _ _ => rfl)) hr (pass1 fun _ _ _ q => q) (pa_cons (pv 1) (pa_cons (pv 2) pa_nil)))), ?_⟩
  refine ⟨(by show (6 : Nat) ≤ sizeLine; decide), fun l nl => ?_⟩
  obtain ⟨g, hg, G⟩ := at_door (P := P) (w := w) (mg := mg) (base := base) (k := 4) (ps := ["places", "wishes"]) (sp := spBadSt K CW) (fs := [f0, f1, f2, f3, f4, f5]) (by
    intro f hf
    simp only [List.mem_cons, List.not_mem_nil, or_false] at hf
    rcases hf with rfl | rfl | rfl | rfl | rfl | rfl <;> assumption) hd
  have sm : Same H (upd H l (.lst [.ref f0, .ref f1, .ref f2, .ref f3, .ref f4, .ref f5])) := Same.new nl
  refine ⟨_, rfl, l, _, _, .ref g, rfl, rfl, SqL.of upd_same, atI_nat hg, g, _, _, rfl, G, _, rfl, _, rfl, v, u, rfl, hv.stay sm, hu.stay sm, ?_, rz.stay sm⟩
  rcases bad with bad | ⟨p, e, bad⟩
  · exact .inl bad
  · exact .inr ⟨p, e, bad.stay hu sm⟩
def BW (K : PySem.W.Frag) (H : Hp) (v : V) : Prop := Any K H v ∧ (NoL H v ∨ ∃ a xs, v = .ref a ∧ H a = some (.lst xs) ∧ (∀ x ∈ xs, Any K H x) ∧ xs.length ≤ 2 ∧ ∀ n, n ≤ 3 → (xs.all fun x => !badV n x) = false)
theorem BW.stay {K : PySem.W.Frag} {H H' : Hp} {v : V} (h : BW K H v) (s : Same H H') : BW K H' v := by
  obtain ⟨hv, h⟩ := h
  refine ⟨hv.stay s, ?_⟩
  rcases h with h | ⟨a, xs, e, ha, hx, r⟩
  · exact .inl (h.stay hv s)
  · exact .inr ⟨a, xs, e, s _ _ ha, fun x m => (hx x m).stay s, r⟩
def spAskW (K : PySem.W.Frag) (CW : Addr) : Sp := fun vs H Q E => ∃ (n m : Nat), vs = [.int (n : Int), .int (m : Int)] ∧ m < 1000 ∧ Rz CW H E
theorem scAskW : FnScope ["_law_which", "_law_more", "_law_bad", "_law_door"] ["_law_which", "_law_more"] (defScope sAskW) := ⟨rfl, rfl, rfl, by decide +kernel, rfl, by decide +kernel, by decide +kernel⟩
set_option maxHeartbeats 16000000 in
theorem d_askw {CW CM : Addr} (S : Src K mg "_law_wishes_asked" sAskW ["_law_which", "_law_more"]) (B : Bt K mg) (D0 : DefX P w K mg base 5 "_law_street" ["_law_door", "_law_places", "_law_wishes"] (spStreetL K CW)) (D1 : DefX P w K mg base 5 "turned" ["wishes", "by"] (spBadTd K CW))
    (D2 : DefX P w K mg base 6 "drives" ["wishes"] (spBadF K CW CM)) (D3 : DefX P w K mg base 6 "tree" ["wishes"] (spBadF K CW CM)) (D4 : DefX P w K mg base 6 "path" ["wishes"] (spBadF K CW CM)) (D5 : DefX P w K mg base 5 "turning" ["wishes"] (spBadTn K CW)) : DefX P w K mg base 7 "_law_wishes_asked" ["_law_which", "_law_more"] (spAskW K CW) := by
  obtain ⟨f0, m0, F0⟩ := D2.at
  obtain ⟨f1, m1, F1⟩ := D3.at
  obtain ⟨f2, m2, F2⟩ := D4.at
  obtain ⟨f3, m3, F3⟩ := D5.at
  have F3 := fnAt_mono F3 (show 5 ≤ 6 by decide)
  refine S.okX scAskW (fun vs H Q E ⟨n, m, e, _⟩ => by rw [e]; rfl) (fun f cdv A outer s H vs Q E hr h => ?_)
  obtain ⟨n, m, rfl, hm, rz⟩ := h
  have hr5 := hr.mono (show 5 ≤ 6 by decide)
  refine ⟨_, gSs (qCons (qIf (pt_cmpR op_eq (pe_op op_mod (pv 0) pe_int) pe_int (nomark _)) (qOne (qRet (qX D0 hr5 (by rfl) (pass1 fun _ _ _ q => q) (qaB ⟨pe_op op_mod (pe_op op_fdiv (pv 0) pe_int) pe_int⟩
        (qaS (qIx ix_list (qL (qaC qI (qaB ⟨pe_op op_sub (pe_un un_neg pe_int) (pv 1)⟩ (qaB ⟨pe_op op_add pe_int (pv 1)⟩ (qaC qY (qaC qS (qaC qO (qaL (qL (qaC qI q0)) q0)))))))) ⟨pe_op op_mod (pe_op op_fdiv (pv 0) pe_int) pe_int⟩ (fun _ _ => rfl)) (qaL (qL q0) q0))) (by decide) rfl rfl))) qNil)
    (qCons (qSet (i := 2) scAskW.nd rfl (Or.inl rfl) (qIx ix_list (qL (qaC qO (qaT1 (qaC qS (qaC qI (qaL (qL (qaB ⟨pe_op op_add pe_int (pv 1)⟩ q0)) (qaL (qL (qaB ⟨pe_op op_sub (pe_un un_neg pe_int) (pv 1)⟩ q0)) (qaL (qL (qaC qY q0)) (qaL (qL (qaC qS q0)) (qaL (qL (qaC qO q0)) (qaL (qL (qaC qI (qaL (qL (qaC qI q0)) q0))) q0))))))))))) ⟨pe_op op_mod (pe_op op_fdiv (pv 0) pe_int) pe_int⟩ (fun _ _ => rfl)) rfl (.inl rfl))
    (qCons (qSet (i := 3) scAskW.nd rfl (Or.inl rfl) ⟨pe_op op_mod (pe_op op_fdiv (pv 0) pe_int) pe_int⟩ rfl (.inl rfl))
    (qCons (qIf (pw_and (pt_cmp (pc_lt (pv 3) pe_int)) (pw_and1 (pt_val (pe_callB call_isi (by rfl) B.isi b_isi (pa_cons (pv 2) (pa_cons (pe_bltn (v := .ty "list") (by rfl) B.list b_list rfl) pa_nil)))))).pt
        (qOne (qRet (qX D0 hr5 (by rfl) (pass1 fun _ _ _ q => q) (qaN ⟨pv 3⟩ (qaC qI (qaB (qOp op_cat (qOp op_rep (qL (qaC qI q0)) ⟨pe_op op_mod (pv 1) pe_int⟩) ⟨pv 2⟩) q0))) (by decide) rfl rfl))) qNil)
    (qCons (qIf (pt_cmp (pc_lt (pv 3) pe_int)) (qOne (qRet (qX D0 hr5 (by rfl) (pass1 fun _ _ _ q => q) (qaN ⟨pv 3⟩ (qaC qI (qaN ⟨pv 2⟩ q0))) (by decide) rfl rfl))) qNil)
    (qCons (qIf (pt_cmpR op_eq (pv 3) pe_int (nomark _)) (qOne (qRet (qX D1 hr5 (by rfl) (pass1 fun _ _ _ q => q) (qaL (qL (qaC qI q0)) (qaS (qIx ix_list (qL (qaC qO (qaC qS (qaC qY (qaL (qL (qaC qI q0)) (qaT1 q0)))))) ⟨pe_op op_mod (pe_op op_fdiv (pv 0) pe_int) pe_int⟩ (fun _ _ => rfl)) q0)) (by decide) rfl rfl))) qNil)
    (qOne (qRet (qV (qIx ix_list (qL (qaN ⟨pe_glob (v := .ref f0) (by rfl) m0 rfl⟩ (qaN ⟨pe_glob (v := .ref f1) (by rfl) m1 rfl⟩ (qaN ⟨pe_glob (v := .ref f2) (by rfl) m2 rfl⟩ (qaN ⟨pe_glob (v := .ref f3) (by rfl) m3 rfl⟩ q0))))) ⟨pe_op op_sub (pv 3) pe_int⟩ (fun _ _ => rfl)) hr (pass1 fun _ _ _ q => q) (qaN ⟨pv 2⟩ q0) rfl rfl))))))))), ?_⟩
  refine ⟨_, rfl, _, _, rfl, rfl, (by show (0 : Int) < 2; decide), rfl, _, rfl, ite2d (fun c => ?_) (fun c => ?_)⟩
  · refine ⟨_, rfl, _, _, rfl, rfl, ⟨by decide, by decide⟩, _, _, rfl, rfl, (by show (0 : Int) < 6; decide), ?_⟩
    refine ⟨_, rfl, _, rfl, _, _, rfl, rfl, _, rfl, _, _, rfl, rfl, by decide, fun l3 nl3 => ⟨(by show (7 : Nat) ≤ sizeLine; decide), fun lL nlL => ?_⟩⟩
    have s1 : Same H (upd H l3 (.lst [.int 3])) := Same.new nl3
    have h3 : (upd H l3 (.lst [.int 3])) l3 = some (.lst [.int 3]) := upd_same
    generalize upd H l3 (.lst [.int 3]) = H1 at s1 h3 nlL
    obtain ⟨v, ev, mv⟩ := pick (xs := [.int 0, .int (-1 - (m : Int)), .int (1000001 + (m : Int)), .bl true, .str "3", .non, .ref l3]) (k := n / 12 % 7) (by show n / 12 % 7 < 7; omega)
    have s2 := s1.next (o := .lst [.int 0, .int (-1 - (m : Int)), .int (1000001 + (m : Int)), .bl true, .str "3", .non, .ref l3]) nlL
    have h3' : (upd H1 lL (.lst [.int 0, .int (-1 - (m : Int)), .int (1000001 + (m : Int)), .bl true, .str "3", .non, .ref l3])) l3 = some (.lst [.int 3]) := by rw [upd_ne (ne_of_none h3 nlL)]; exact h3
    refine ⟨_, rfl, _, _, rfl, rfl, ⟨by decide, by decide⟩, _, _, rfl, rfl, (by show (0 : Int) < 7; decide), lL, _, _, v, rfl, rfl, SqL.of upd_same, ?_, ?_⟩
    · rw [show ((n : Nat) : Int) / 12 % 7 = ((n / 12 % 7 : Nat) : Int) by omega]
      exact ev
    generalize upd H1 lL (.lst [.int 0, .int (-1 - (m : Int)), .int (1000001 + (m : Int)), .bl true, .str "3", .non, .ref l3]) = H2 at s2 h3'
    refine ⟨by decide, fun lE nlE => ?_⟩
    have sE : Same H2 (upd H2 lE (.lst [])) := Same.new nlE
    have props : Any K H2 v ∧ stV v = false := by
      simp only [List.mem_cons, List.not_mem_nil, or_false] at mv
      rcases mv with rfl | rfl | rfl | rfl | rfl | rfl | rfl
      · exact ⟨.int _, rfl⟩
      · exact ⟨.int _, by show (decide (1 ≤ -1 - (m : Int)) && decide (-1 - (m : Int) ≤ 1000000)) = false; rw [decide_eq_false (by omega)]; rfl⟩
      · exact ⟨.int _, by show (decide (1 ≤ 1000001 + (m : Int)) && decide (1000001 + (m : Int) ≤ 1000000)) = false; rw [decide_eq_false (show ¬ 1000001 + (m : Int) ≤ 1000000 by omega), Bool.and_false]⟩
      · exact ⟨.bl _, rfl⟩
      · exact ⟨.str _, rfl⟩
      · exact ⟨.non, rfl⟩
      · exact ⟨.lst h3', rfl⟩
    refine ⟨n / 2 % 6, v, .ref lE, ?_, by omega, props.1.stay sE, .lst upd_same, .inl props.2, rz.stay (s2.trans sE)⟩
    show [V.int (((n : Nat) : Int) / 2 % 6), v, V.ref lE] ++ [] = _
    rw [show ((n : Nat) : Int) / 2 % 6 = ((n / 2 % 6 : Nat) : Int) by omega]
    rfl
  refine ⟨by decide, fun b1 n1 => ?_⟩
  have t1 : (upd H b1 (.tup [.int 0])) b1 = some (.tup [.int 0]) := upd_same
  have s1 : Same H (upd H b1 (.tup [.int 0])) := Same.new n1
  generalize upd H b1 (.tup [.int 0]) = H1 at t1 s1
  refine ⟨_, rfl, _, _, rfl, rfl, (by show (1 : Nat) ≤ sizeLine; decide), fun b2 n2 => ?_⟩
  have t2 : (upd H1 b2 (.lst [.int (3 + (m : Int))])) b2 = some (.lst [.int (3 + (m : Int))]) := upd_same
  have s2 : Same H1 (upd H1 b2 (.lst [.int (3 + (m : Int))])) := Same.new n2
  generalize upd H1 b2 (.lst [.int (3 + (m : Int))]) = H2 at t2 s2
  refine ⟨_, rfl, _, rfl, _, _, rfl, rfl, (by show (1 : Nat) ≤ sizeLine; decide), fun b3 n3 => ?_⟩
  have t3 : (upd H2 b3 (.lst [.int (-1 - (m : Int))])) b3 = some (.lst [.int (-1 - (m : Int))]) := upd_same
  have s3 : Same H2 (upd H2 b3 (.lst [.int (-1 - (m : Int))])) := Same.new n3
  generalize upd H2 b3 (.lst [.int (-1 - (m : Int))]) = H3 at t3 s3
  refine ⟨by decide, fun b4 n4 => ?_⟩
  have t4 : (upd H3 b4 (.lst [.bl true])) b4 = some (.lst [.bl true]) := upd_same
  have s4 : Same H3 (upd H3 b4 (.lst [.bl true])) := Same.new n4
  generalize upd H3 b4 (.lst [.bl true]) = H4 at t4 s4
  refine ⟨by decide, fun b5 n5 => ?_⟩
  have t5 : (upd H4 b5 (.lst [.str "0"])) b5 = some (.lst [.str "0"]) := upd_same
  have s5 : Same H4 (upd H4 b5 (.lst [.str "0"])) := Same.new n5
  generalize upd H4 b5 (.lst [.str "0"]) = H5 at t5 s5
  refine ⟨by decide, fun b6 n6 => ?_⟩
  have t6 : (upd H5 b6 (.lst [.non])) b6 = some (.lst [.non]) := upd_same
  have s6 : Same H5 (upd H5 b6 (.lst [.non])) := Same.new n6
  generalize upd H5 b6 (.lst [.non]) = H6 at t6 s6
  refine ⟨by decide, fun b7 n7 => ?_⟩
  have t7 : (upd H6 b7 (.lst [.int 0])) b7 = some (.lst [.int 0]) := upd_same
  have s7 : Same H6 (upd H6 b7 (.lst [.int 0])) := Same.new n7
  generalize upd H6 b7 (.lst [.int 0]) = H7 at t7 s7
  refine ⟨(by show (2 : Nat) ≤ sizeLine; decide), fun b8 n8 => ?_⟩
  have t8 : (upd H7 b8 (.lst [.int 0, .ref b7])) b8 = some (.lst [.int 0, .ref b7]) := upd_same
  have s8 : Same H7 (upd H7 b8 (.lst [.int 0, .ref b7])) := Same.new n8
  generalize upd H7 b8 (.lst [.int 0, .ref b7]) = H8 at t8 s8
  refine ⟨(by show (10 : Nat) ≤ sizeLine; decide), fun bl nl => ?_⟩
  obtain ⟨v, ev, mv⟩ := pick (xs := [.non, .ref b1, .str "0", .int 0, .ref b2, .ref b3, .ref b4, .ref b5, .ref b6, .ref b8]) (k := n / 2 % 10) (by show n / 2 % 10 < 10; omega)
  have s9 : Same H8 (upd H8 bl (.lst [.non, .ref b1, .str "0", .int 0, .ref b2, .ref b3, .ref b4, .ref b5, .ref b6, .ref b8])) := Same.new nl
  refine ⟨_, rfl, _, _, rfl, rfl, ⟨by decide, by decide⟩, _, _, rfl, rfl, (by show (0 : Int) < 10; decide), bl, _, _, v, rfl, rfl, SqL.of upd_same, ?_, ?_⟩
  · rw [show ((n : Nat) : Int) / 2 % 10 = ((n / 2 % 10 : Nat) : Int) by omega]
    exact ev
  generalize upd H8 bl (.lst [.non, .ref b1, .str "0", .int 0, .ref b2, .ref b3, .ref b4, .ref b5, .ref b6, .ref b8]) = H9 at s9
  have q8 := s9
  have q7 := s8.trans q8
  have q6 := s7.trans q7
  have q5 := s6.trans q6
  have q4 := s5.trans q5
  have q3 := s4.trans q4
  have q2 := s3.trans q3
  have q1 := s2.trans q2
  have q0' := s1.trans q1
  have bw : BW K H9 v := by
    simp only [List.mem_cons, List.not_mem_nil, or_false] at mv
    rcases mv with rfl | rfl | rfl | rfl | rfl | rfl | rfl | rfl | rfl | rfl
    · exact ⟨.non, .inl fun a xs e => by cases e⟩
    · exact ⟨.tup (q1 _ _ t1), .inl fun a xs e z => by cases e; rw [q1 _ _ t1] at z; cases z⟩
    · exact ⟨.str _, .inl fun a xs e => by cases e⟩
    · exact ⟨.int _, .inl fun a xs e => by cases e⟩
    · refine ⟨.lst (q2 _ _ t2), .inr ⟨_, _, rfl, q2 _ _ t2, fun x hx => ?_, (by show (1 : Nat) ≤ 2; decide), fun k hk => ?_⟩⟩
      · rw [List.mem_singleton.mp hx]; exact .int _
      · show (!(decide (3 + (m : Int) < 0) || decide ((k : Int) ≤ 3 + (m : Int))) && true) = false
        rw [decide_eq_true (show (k : Int) ≤ 3 + (m : Int) by omega), Bool.or_true]
        rfl
    · refine ⟨.lst (q3 _ _ t3), .inr ⟨_, _, rfl, q3 _ _ t3, fun x hx => ?_, (by show (1 : Nat) ≤ 2; decide), fun k hk => ?_⟩⟩
      · rw [List.mem_singleton.mp hx]; exact .int _
      · show (!(decide (-1 - (m : Int) < 0) || decide ((k : Int) ≤ -1 - (m : Int))) && true) = false
        rw [decide_eq_true (show -1 - (m : Int) < 0 by omega)]
        rfl
    · exact ⟨.lst (q4 _ _ t4), .inr ⟨_, _, rfl, q4 _ _ t4, fun x hx => by rw [List.mem_singleton.mp hx]; exact .bl _, by decide, fun k hk => rfl⟩⟩
    · exact ⟨.lst (q5 _ _ t5), .inr ⟨_, _, rfl, q5 _ _ t5, fun x hx => by rw [List.mem_singleton.mp hx]; exact .str _, by decide, fun k hk => rfl⟩⟩
    · exact ⟨.lst (q6 _ _ t6), .inr ⟨_, _, rfl, q6 _ _ t6, fun x hx => by rw [List.mem_singleton.mp hx]; exact .non, by decide, fun k hk => rfl⟩⟩
    · refine ⟨.lst (q8 _ _ t8), .inr ⟨_, _, rfl, q8 _ _ t8, fun x hx => ?_, (by show (2 : Nat) ≤ 2; decide), fun k hk => ?_⟩⟩
      · rcases List.mem_cons.mp hx with rfl | hx
        · exact .int _
        · rw [List.mem_singleton.mp hx]; exact .lst (q7 _ _ t7)
      · show (!(decide ((0 : Int) < 0) || decide ((k : Int) ≤ 0)) && (false && true)) = false
        rw [Bool.false_and, Bool.and_false]
  have rz9 := rz.stay q0'
  clear q0' q1 q2 q3 q4 q5 q6 q7 q8 t1 t2 t3 t4 t5 t6 t7 t8 s1 s2 s3 s4 s5 s6 s7 s8 s9
  refine ⟨_, rfl, _, _, rfl, rfl, ⟨by decide, by decide⟩, _, _, rfl, rfl, (by show (0 : Int) < 11; decide), ?_⟩
  have ed : ((n : Nat) : Int) / 20 % 11 = ((n / 20 % 11 : Nat) : Int) := by omega
  obtain ⟨d, edd⟩ : ∃ d, n / 20 % 11 = d := ⟨_, rfl⟩
  have d11 : d < 11 := by omega
  rw [edd] at ed
  show gName 3 (V.int (((n : Nat) : Int) / 20 % 11)) _ _ _
  rw [ed]
  refine g_name ?_
  obtain ⟨av, bv⟩ := bw
  obtain ⟨ty, bb, hty, e1, e2, e3⟩ := av.isL
  have nolist : ∀ p : Nat, NoL H9 v → BadL K H9 (fun _ => p) v := fun p h => .inl h
  refine ⟨_, rfl, _, _, rfl, rfl, _, rfl, ite2d (fun c6 => ?_) (fun c6 => ?_)⟩
  · -- a street's door
    have c6 : d < 6 := by omega
    refine ⟨_, rfl, _, _, _, _, _, rfl, hty, .inl ⟨_, rfl, rfl⟩, e1, _, rfl, ?_⟩
    cases bb with
    | true =>
      obtain ⟨a, xs, rfl, ha⟩ := e2 rfl
      rcases bv with bv | ⟨a', xs', e, ha', hx, xl, hb⟩
      · exact absurd ha (bv _ _ rfl)
      cases e
      rw [ha] at ha'
      cases ha'
      refine iteT ?_
      refine ⟨_, rfl, by decide, fun l1 n1 => ?_⟩
      have s1 : Same H9 (upd H9 l1 (.lst [.int 1])) := Same.new n1
      refine ⟨_, rfl, _, _, rfl, rfl, (by show (0 : Int) < 9; decide), l1, _, [.int 1], rfl, rfl, upd_same, ?_, ?_, ?_, fun l2 n2 => ?_⟩
      · omega
      · omega
      · show 1 * ((m : Int) % 9).toNat ≤ sizeLine
        exact Nat.le_of_lt (small1000 (by omega))
      have s2 := s1.next (o := .lst (List.replicate ((m : Int) % 9).toNat [V.int 1]).flatten) n2
      refine ⟨_, rfl, l2, a, _, xs, rfl, rfl, upd_same, s2 _ _ ha, ?_, fun l3 n3 => ?_⟩
      · rw [flat_rep, List.length_replicate]
        exact Nat.le_of_lt (small1000 (by omega))
      have s3 := s2.next (o := .lst ((List.replicate ((m : Int) % 9).toNat [V.int 1]).flatten ++ xs)) n3
      refine ⟨d, .int 3, .ref l3, rfl, c6, .int 3, .lst upd_same, .inr ⟨3, rfl, .inr ⟨l3, _, rfl, upd_same, fun x hx' => ?_, ?_⟩⟩, rz9.stay s3⟩
      · rw [flat_rep] at hx'
        rcases List.mem_append.mp hx' with z | z
        · rw [(List.mem_replicate.mp z).2]; exact .int _
        · exact (hx x z).stay s3
      · rw [List.all_append, hb 3 (by decide), Bool.and_false]
    | false =>
      refine iteF ?_
      refine ⟨_, rfl, _, _, rfl, rfl, _, rfl, iteTd (by omega) ?_⟩
      refine ⟨_, rfl, _, rfl, d, .int 3, v, rfl, c6, .int 3, av, .inr ⟨3, rfl, .inl (e3 rfl)⟩, rz9⟩
  · refine ⟨_, rfl, _, _, rfl, rfl, _, rfl, iteFd (by omega) ?_⟩
    refine ⟨_, rfl, rfl, _, rfl, ite2d (fun c10 => ?_) (fun c10 => ?_)⟩
    · -- turned by no number
      refine ⟨by decide, fun l1 n1 => ?_⟩
      have s1 : Same H9 (upd H9 l1 (.lst [.int 0])) := Same.new n1
      have t1 : (upd H9 l1 (.lst [.int 0])) l1 = some (.lst (vI [0])) := upd_same
      generalize upd H9 l1 (.lst [.int 0]) = Ha at s1 t1
      refine ⟨by decide, fun l2 n2 => ?_⟩
      have s2 := s1.next (o := .lst [.int 1]) n2
      have t1b : (upd Ha l2 (.lst [.int 1])) l1 = some (.lst (vI [0])) := by rw [upd_ne (ne_of_none t1 n2)]; exact t1
      have t2 : (upd Ha l2 (.lst [.int 1])) l2 = some (.lst [.int 1]) := upd_same
      generalize upd Ha l2 (.lst [.int 1]) = Hb at s2 t1b t2
      refine ⟨by decide, fun l3 n3 => ?_⟩
      have s3 := s2.next (o := .tup [.int 1]) n3
      have t1c : (upd Hb l3 (.tup [.int 1])) l1 = some (.lst (vI [0])) := by rw [upd_ne (ne_of_none t1b n3)]; exact t1b
      have t2c : (upd Hb l3 (.tup [.int 1])) l2 = some (.lst [.int 1]) := by rw [upd_ne (ne_of_none t2 n3)]; exact t2
      have t3 : (upd Hb l3 (.tup [.int 1])) l3 = some (.tup [.int 1]) := upd_same
      generalize upd Hb l3 (.tup [.int 1]) = Hc at s3 t1c t2c t3
      refine ⟨(by show (5 : Nat) ≤ sizeLine; decide), fun l4 n4 => ?_⟩
      obtain ⟨u, eu, mu⟩ := pick (xs := [.non, .str "1", .bl true, .ref l2, .ref l3]) (k := n / 220 % 5) (by show n / 220 % 5 < 5; omega)
      have s4 := s3.next (o := .lst [.non, .str "1", .bl true, .ref l2, .ref l3]) n4
      refine ⟨_, rfl, _, _, rfl, rfl, ⟨by decide, by decide⟩, _, _, rfl, rfl, (by show (0 : Int) < 5; decide), l4, _, _, u, rfl, rfl, SqL.of upd_same, ?_, ?_⟩
      · rw [show ((n : Nat) : Int) / 220 % 5 = ((n / 220 % 5 : Nat) : Int) by omega]
        exact eu
      have t1d : (upd Hc l4 (.lst [.non, .str "1", .bl true, .ref l2, .ref l3])) l1 = some (.lst (vI [0])) := by rw [upd_ne (ne_of_none t1c n4)]; exact t1c
      have t2d : (upd Hc l4 (.lst [.non, .str "1", .bl true, .ref l2, .ref l3])) l2 = some (.lst [.int 1]) := by rw [upd_ne (ne_of_none t2c n4)]; exact t2c
      have t3d : (upd Hc l4 (.lst [.non, .str "1", .bl true, .ref l2, .ref l3])) l3 = some (.tup [.int 1]) := by rw [upd_ne (ne_of_none t3 n4)]; exact t3
      have props : Any K (upd Hc l4 (.lst [.non, .str "1", .bl true, .ref l2, .ref l3])) u ∧ numV u = false := by
        simp only [List.mem_cons, List.not_mem_nil, or_false] at mu
        rcases mu with rfl | rfl | rfl | rfl | rfl
        · exact ⟨.non, rfl⟩
        · exact ⟨.str _, rfl⟩
        · exact ⟨.bl _, rfl⟩
        · exact ⟨.lst t2d, rfl⟩
        · exact ⟨.tup t3d, rfl⟩
      exact ⟨l1, [0], u, rfl, t1d, fun w hw => by simp at hw; subst hw; decide, props.1, props.2, rz9.stay s4⟩
    · -- the other doors
      refine ⟨(by show (4 : Nat) ≤ sizeLine; decide), fun l1 n1 => ?_⟩
      have s1 : Same H9 (upd H9 l1 (.lst [.ref f0, .ref f1, .ref f2, .ref f3])) := Same.new n1
      have bad : ∀ k : Nat, k ≤ 1 → BadL K (upd H9 l1 (.lst [.ref f0, .ref f1, .ref f2, .ref f3])) (fun xs => xs.length + k) v := fun k hk => by
        refine BadL.stay ?_ av s1
        rcases bv with bv | ⟨a', xs', e, ha', hx, xl, hb⟩
        · exact .inl bv
        · exact .inr ⟨a', xs', e, ha', hx, hb _ (by show xs'.length + k ≤ 3; omega)⟩
      have d4 : d = 6 ∨ d = 7 ∨ d = 8 ∨ d = 9 := by
        have : d ≠ 10 := fun z => c10 (by rw [z]; rfl)
        omega
      rcases d4 with e | e | e | e
      · exact ⟨_, rfl, _, _, rfl, rfl, l1, _, _, .ref f0, rfl, rfl, SqL.of upd_same, (by subst e; exact atI_nat (j := 0) rfl), f0, _, _, rfl, F0, _, rfl, v, CW, rfl, av.stay s1, .inl ⟨bad 0 (by decide), rfl⟩, rz9.stay s1⟩
      · exact ⟨_, rfl, _, _, rfl, rfl, l1, _, _, .ref f1, rfl, rfl, SqL.of upd_same, (by subst e; exact atI_nat (j := 1) rfl), f1, _, _, rfl, F1, _, rfl, v, CW, rfl, av.stay s1, .inl ⟨bad 0 (by decide), rfl⟩, rz9.stay s1⟩
      · exact ⟨_, rfl, _, _, rfl, rfl, l1, _, _, .ref f2, rfl, rfl, SqL.of upd_same, (by subst e; exact atI_nat (j := 2) rfl), f2, _, _, rfl, F2, _, rfl, v, CW, rfl, av.stay s1, .inl ⟨bad 0 (by decide), rfl⟩, rz9.stay s1⟩
      · exact ⟨_, rfl, _, _, rfl, rfl, l1, _, _, .ref f3, rfl, rfl, SqL.of upd_same, (by subst e; exact atI_nat (j := 3) rfl), f3, _, _, rfl, F3, _, rfl, v, rfl, av.stay s1, bad 1 (by decide), rz9.stay s1⟩
def spAskM (CM : Addr) : Sp := fun vs H Q E => ∃ (n m : Nat), vs = [.int (n : Int), .int (m : Int)] ∧ m < 1000 ∧ Rz CM H E
theorem scAskM : FnScope ["_law_which", "_law_more", "_law_wishes"] ["_law_which", "_law_more"] (defScope sAskM) := ⟨rfl, rfl, rfl, by decide +kernel, rfl, by decide +kernel, by decide +kernel⟩
theorem not_full1 : ¬ Pk.FullL 2 [1, 1] := fun fu => absurd (fu.2 1 (by decide)) (by decide)
theorem not_full2 : ¬ Pk.FullL 3 [0, 2, 2] := fun fu => absurd (fu.2 2 (by decide)) (by decide)
theorem not_full3 : ¬ Pk.FullL 4 [3, 3, 0, 0] := fun fu => absurd (fu.2 3 (by decide)) (by decide)
set_option maxHeartbeats 16000000 in
theorem d_askm {CW CM : Addr} (S : Src K mg "_law_many_asked" sAskM ["_law_which", "_law_more"]) (B : Bt K mg) (D1 : DefX P w K mg base 4 "ring" ["places", "wishes"] (spRing CM))
    (D2 : DefX P w K mg base 6 "drives" ["wishes"] (spBadF K CW CM)) (D3 : DefX P w K mg base 6 "tree" ["wishes"] (spBadF K CW CM)) (D4 : DefX P w K mg base 6 "path" ["wishes"] (spBadF K CW CM)) : DefX P w K mg base 7 "_law_many_asked" ["_law_which", "_law_more"] (spAskM CM) := by
  obtain ⟨f0, m0, F0⟩ := D2.at
  obtain ⟨f1, m1, F1⟩ := D3.at
  obtain ⟨f2, m2, F2⟩ := D4.at
  refine S.okX scAskM (fun vs H Q E ⟨n, m, e, _⟩ => by rw [e]; rfl) (fun f cdv A outer s H vs Q E hr h => ?_)
  obtain ⟨n, m, rfl, hm, rz⟩ := h
  have hr4 := hr.mono (show 4 ≤ 6 by decide)
  refine ⟨_, gSs (qCons (qSet (i := 2) scAskM.nd rfl (Or.inl rfl) (qIx ix_list (qL (qaL (qL (qaC qI q0)) (qaL (qL (qaC qI (qaC qI (qaC qI q0)))) (qaL (qL (qaC qI (qaC qI q0))) (qaL (qL (qaC qI (qaC qI (qaC qI (qaC qI q0))))) q0))))) ⟨pe_op op_mod (pe_op op_fdiv (pv 0) pe_int) pe_int⟩ (fun _ _ => rfl)) rfl (.inl rfl))
    (qCons (qIf (pt_cmp (pc_lt (pe_op op_mod (pv 0) pe_int) pe_int)) (qOne (qRet (qV (qIx ix_list (qL (qaN ⟨pe_glob (v := .ref f0) (by rfl) m0 rfl⟩ (qaN ⟨pe_glob (v := .ref f1) (by rfl) m1 rfl⟩ (qaN ⟨pe_glob (v := .ref f2) (by rfl) m2 rfl⟩ q0)))) ⟨pe_op op_mod (pv 0) pe_int⟩ (fun _ _ => rfl)) hr (pass1 fun _ _ _ q => q)
        (qaI (qIfE (pt_cmp (pc_gt (pe_callB call_len_seq (by rfl) B.len b_len (pa_cons (pv 2) pa_nil)) pe_int)) ⟨pv 2⟩ (qL (qaC qI (qaC qI q0)))) q0) rfl rfl))) qNil)
    (qOne (qRet (qX D1 hr4 (by rfl) (pass1 fun _ _ _ q => q) (qaB (qOp op_add qI (qOp op_mod ⟨pv 1⟩ qI)) (qaLC ⟨pe_comp (sc := defScope sAskM) ["_law_which", "_law_more", "_law_wishes"] ["_law_car"] [none] ⟨rfl, by decide +kernel, by decide +kernel, by decide +kernel, by decide +kernel, rfl, by decide +kernel⟩ rfl rfl rfl
        (pi_range1 (by rfl) B.range (pa_cons (pe_op op_add pe_int (pe_op op_mod (pv 1) pe_int)) pa_nil)) (fun C s H fp nd => ⟨pg_name (i := 0) nd rfl (Or.inl rfl), pts_nil, pe_int⟩)⟩ q0)) (by decide) rfl rfl))))), ?_⟩
  refine ⟨by decide, fun b1 n1 => ?_⟩
  have t1 : (upd H b1 (.lst [.int 1])) b1 = some (.lst (vI [1])) := upd_same
  have s1 : Same H (upd H b1 (.lst [.int 1])) := Same.new n1
  generalize upd H b1 (.lst [.int 1]) = H1 at t1 s1
  refine ⟨by decide, fun b2 n2 => ?_⟩
  have t2 : (upd H1 b2 (.lst [.int 0, .int 2, .int 2])) b2 = some (.lst (vI [0, 2, 2])) := upd_same
  have s2 : Same H1 (upd H1 b2 (.lst [.int 0, .int 2, .int 2])) := Same.new n2
  generalize upd H1 b2 (.lst [.int 0, .int 2, .int 2]) = H2 at t2 s2
  refine ⟨by decide, fun b3 n3 => ?_⟩
  have t3 : (upd H2 b3 (.lst [.int 1, .int 1])) b3 = some (.lst (vI [1, 1])) := upd_same
  have s3 : Same H2 (upd H2 b3 (.lst [.int 1, .int 1])) := Same.new n3
  generalize upd H2 b3 (.lst [.int 1, .int 1]) = H3 at t3 s3
  refine ⟨by decide, fun b4 n4 => ?_⟩
  have t4 : (upd H3 b4 (.lst [.int 3, .int 3, .int 0, .int 0])) b4 = some (.lst (vI [3, 3, 0, 0])) := upd_same
  have s4 : Same H3 (upd H3 b4 (.lst [.int 3, .int 3, .int 0, .int 0])) := Same.new n4
  generalize upd H3 b4 (.lst [.int 3, .int 3, .int 0, .int 0]) = H4 at t4 s4
  refine ⟨(by show (4 : Nat) ≤ sizeLine; decide), fun bl nl => ?_⟩
  have s5 : Same H4 (upd H4 bl (.lst [.ref b1, .ref b2, .ref b3, .ref b4])) := Same.new nl
  obtain ⟨v, ev, mv⟩ := pick (xs := [.ref b1, .ref b2, .ref b3, .ref b4]) (k := n / 4 % 4) (by show n / 4 % 4 < 4; omega)
  refine ⟨_, rfl, _, _, rfl, rfl, ⟨by decide, by decide⟩, _, _, rfl, rfl, (by show (0 : Int) < 4; decide), bl, _, _, v, rfl, rfl, SqL.of upd_same, ?_, ?_⟩
  · rw [show ((n : Nat) : Int) / 4 % 4 = ((n / 4 % 4 : Nat) : Int) by omega]
    exact ev
  generalize upd H4 bl (.lst [.ref b1, .ref b2, .ref b3, .ref b4]) = H5 at s5
  have q4 := s5
  have q3 := s4.trans q4
  have q2 := s3.trans q3
  have q1 := s2.trans q2
  have qq := s1.trans q1
  obtain ⟨a, ws, rfl, ha, hws⟩ : ∃ (a : Addr) (ws : List Nat), v = .ref a ∧ H5 a = some (.lst (vI ws)) ∧ (ws = [1] ∨ (1 < ws.length ∧ ws.length ≤ 63 ∧ (∀ w ∈ ws, w < ws.length) ∧ ¬ Pk.FullL ws.length ws)) := by
    simp only [List.mem_cons, List.not_mem_nil, or_false] at mv
    rcases mv with rfl | rfl | rfl | rfl
    · exact ⟨b1, [1], rfl, q1 _ _ t1, .inl rfl⟩
    · exact ⟨b2, [0, 2, 2], rfl, q2 _ _ t2, .inr ⟨by decide, by decide, by decide, not_full2⟩⟩
    · exact ⟨b3, [1, 1], rfl, q3 _ _ t3, .inr ⟨by decide, by decide, by decide, not_full1⟩⟩
    · exact ⟨b4, [3, 3, 0, 0], rfl, q4 _ _ t4, .inr ⟨by decide, by decide, by decide, not_full3⟩⟩
  have rz5 := rz.stay qq
  clear q1 q2 q3 q4 qq t1 t2 t3 t4 s1 s2 s3 s4 s5 mv ev
  refine ⟨_, rfl, _, _, rfl, rfl, (by show (0 : Int) < 4; decide), _, _, rfl, rfl, _, rfl, ite2d (fun c => ?_) (fun c => ?_)⟩
  · refine ⟨(by show (3 : Nat) ≤ sizeLine; decide), fun l1 nl1 => ?_⟩
    have sA : Same H5 (upd H5 l1 (.lst [.ref f0, .ref f1, .ref f2])) := Same.new nl1
    have d3 : n % 4 = 0 ∨ n % 4 = 1 ∨ n % 4 = 2 := by omega
    obtain ⟨g, hg, G⟩ := at_door (P := P) (w := w) (mg := mg) (base := base) (k := 6) (ps := ["wishes"]) (sp := spBadF K CW CM) (fs := [f0, f1, f2]) (by
      intro f hf
      simp only [List.mem_cons, List.not_mem_nil, or_false] at hf
      rcases hf with rfl | rfl | rfl <;> assumption) (d := n % 4) (by show n % 4 < 3; omega)
    refine ⟨_, rfl, _, _, rfl, rfl, (by show (0 : Int) < 4; decide), l1, _, _, .ref g, rfl, rfl, SqL.of upd_same, ?_, ?_⟩
    · rw [show ((n : Nat) : Int) % 4 = ((n % 4 : Nat) : Int) by omega]
      exact atI_nat hg
    have haA := sA _ _ ha
    have rzA := rz5.stay sA
    generalize upd H5 l1 (.lst [.ref f0, .ref f1, .ref f2]) = H6 at haA rzA
    refine ⟨g, _, _, rfl, G, ?_⟩
    refine ⟨_, rfl, a, _, rfl, .inl (SqL.of haA), _, _, rfl, rfl, _, rfl, ?_⟩
    rw [vI_len]
    rcases hws with rfl | ⟨w1, w2, w3, w4⟩
    · refine iteFd (by decide) ?_
      refine ⟨by decide, fun l2 nl2 => ?_⟩
      have sB : Same H6 (upd H6 l2 (.lst [.int 1, .int 1])) := Same.new nl2
      exact ⟨.ref l2, CM, rfl, .lst upd_same, .inr ⟨l2, [1, 1], rfl, upd_same, by decide, by decide, not_full1, rfl⟩, rzA.stay sB⟩
    · refine iteTd (by omega) ?_
      exact ⟨_, rfl, .ref a, CM, rfl, .lst haA, .inr ⟨a, ws, rfl, haA, w2, w3, w4, rfl⟩, rzA⟩
  · refine ⟨_, rfl, _, _, rfl, rfl, (by show (0 : Int) < 5; decide), _, _, rfl, rfl, ?_⟩
    refine ⟨_, rfl, _, _, rfl, rfl, (by show (0 : Int) < 5; decide), _, _, rfl, rfl, (2 + (m : Int) % 5), rfl, by omega, by omega, ?_⟩
    have e2 : (2 + (m : Int) % 5).toNat = 2 + m % 5 := by omega
    rw [e2]
    refine comp_range (fun i => List.replicate i (V.int 0)) (fun i σ H' => H' = H5) (small63' (by omega)) (fun i _ => by rw [List.length_replicate]; exact Nat.le_refl _) rfl rfl (fun i σ H' hi e => ?_) (fun σ H' fr e nfr => ?_)
    · refine g_name ?_
      refine t_true ?_
      refine iteT ?_
      exact t_c (cnx hi List.replicate_succ'.symm e)
    subst e
    have sC : Same H' (upd H' fr (.lst (List.replicate (2 + m % 5) (V.int 0)))) := Same.new nfr
    have ew : vI (List.replicate (2 + m % 5) 0) = List.replicate (2 + m % 5) (V.int 0) := by rw [vI_eq, List.map_replicate]; rfl
    refine ⟨1 + m % 5, fr, List.replicate (2 + m % 5) 0, ?_, by rw [ew]; exact upd_same, fun w hw => ?_, by omega, by omega, ?_, fun z => ?_, fun _ => (rz5.stay sC).here⟩
    · show [V.int (1 + (m : Int) % 5), V.ref fr] ++ [] = _
      rw [show (1 + (m : Int) % 5) = ((1 + m % 5 : Nat) : Int) by omega]
      rfl
    · rw [(List.mem_replicate.mp hw).2]
      omega
    · rw [List.length_replicate]
      omega
    · rw [List.length_replicate] at z
      omega
def BT (K : PySem.W.Frag) (H : Hp) (v : V) : Prop := Any K H v ∧ (NoL H v ∨ ∃ a xs, v = .ref a ∧ H a = some (.lst xs) ∧ (∀ x ∈ xs, Any K H x) ∧ xs.length ≤ 63 ∧ ((xs.all fun x => !badV (xs.length + 1) x) = false ∨ xs = vI [1]))
theorem bt_refused {K : PySem.W.Frag} {H : Hp} {v : V} {CT : Addr} {Q : VK} {E : XK} (h : BT K H v) (rz : Rz CT H E) : spWishesOf K CT [v] H Q E := by
  obtain ⟨hv, h⟩ := h
  refine ⟨v, rfl, hv, fun a xs e ha => ?_, fun _ => rz.here⟩
  rcases h with h | ⟨a', xs', e', ha', hx, xl, h⟩
  · exact absurd ha (h _ _ e)
  rw [e] at e'
  cases e'
  rw [ha] at ha'
  cases ha'
  refine ⟨hx, xl, fun _ => rz.here, fun ps e2 hp t dn => ?_⟩
  rcases h with h | h
  · exfalso
    rw [e2, vI_len, goodI (fun p m => by have := hp p m; omega)] at h
    cases h
  · rw [h] at e2
    obtain rfl := vI_inj e2
    have l := Pk.loop_short (ps := [1]) (A := [1]) (t := t) (c := 1) (by decide) (fun c hc => by rw [List.mem_singleton.mp hc]; exact ⟨by decide, by decide, by decide⟩) (by decide) dn.go
    rw [dn.fin] at l
    exact ⟨fun _ H' sm => rz H' sm, fun z => by rw [z] at l; exact absurd l (by decide)⟩
def BPh (v : V) : Prop := (∀ z, v ≠ .str z) ∨ ∃ t, v = .str (tx t) ∧ t.length ≤ 2000 ∧ Pk.goodP t = false
theorem beneath_refused {K : PySem.W.Frag} {H : Hp} {v : V} {CP : Addr} {Q : VK} {E : XK} (hv : Any K H v) (h : BPh v) (rz : Rz CP H E) : spBeneath K CP [v] H Q E := by
  refine ⟨v, rfl, hv, fun t e => ?_, fun _ => rz.here⟩
  rcases h with h | ⟨t', e', hl, hg⟩
  · exact absurd e (h _)
  · rw [e'] at e
    obtain rfl := tx_inj (V.str.inj e)
    exact ⟨hl, (fun z => by rw [hg] at z; cases z), fun _ H' sm => rz H' sm⟩
theorem rising_refused {K : PySem.W.Frag} {H : Hp} {v : V} {CP : Addr} {Q : VK} {E : XK} (hv : Any K H v) (h : BPh v) (rz : Rz CP H E) : spRising K CP [v] H Q E := by
  refine ⟨v, rfl, hv, fun t e => ?_, fun _ => rz.here⟩
  rcases h with h | ⟨t', e', hl, hg⟩
  · exact absurd e (h _)
  · rw [e'] at e
    obtain rfl := tx_inj (V.str.inj e)
    exact ⟨hl, (fun z => by rw [hg] at z; cases z), fun _ H' sm => rz H' sm⟩
theorem wk_rep : ∀ k : Nat, (Pk.wk (List.replicate k 117)).ok = true ∧ (Pk.wk (List.replicate k 117)).h = k
  | 0 => ⟨rfl, rfl⟩
  | k + 1 => by
    obtain ⟨i1, i2⟩ := wk_rep k
    rw [List.replicate_succ', Pk.wk_snoc, Pk.stp_up i1]
    exact ⟨i1, congrArg (· + 1) i2⟩
theorem s_udd : ("udd" : Str) = tx [117, 100, 100] := by decide +kernel
def spAskO (CT CP CD : Addr) : Sp := fun vs H Q E => ∃ (k n m : Nat) (C : Addr), vs = [.int (k : Int), .int (n : Int), .int (m : Int)] ∧ m < 1000 ∧ ((k = 2 ∧ C = CT) ∨ (k = 3 ∧ C = CP) ∨ (k = 4 ∧ C = CD)) ∧ Rz C H E
theorem scAskO : FnScope ["_law_kind", "_law_which", "_law_more", "_law_bad", "_law_door", "_law_steps"] ["_law_kind", "_law_which", "_law_more"] (defScope sAskO) := ⟨rfl, rfl, rfl, by decide +kernel, rfl, by decide +kernel, by decide +kernel⟩
theorem mst01 : mst [0, 1] 2 = [0, 1] := by decide
theorem stn01 : Pk.Stn 2 [0, 1] := ⟨rfl, by decide, by decide⟩
set_option maxHeartbeats 16000000 in
theorem d_asko {CT CP CD : Addr} (S : Src K mg "_law_others_asked" sAskO ["_law_kind", "_law_which", "_law_more"]) (B : Bt K mg) (D1 : DefX P w K mg base 4 "wishes_of" ["parents"] (spWishesOf K CT))
    (D2 : DefX P w K mg base 2 "beneath" ["text"] (spBeneath K CP)) (D3 : DefX P w K mg base 2 "rising" ["text"] (spRising K CP)) (D4 : DefX P w K mg base 5 "reaches" ["standing"] (spBadSd K CD)) (D5 : DefX P w K mg base 6 "how_many" ["standing"] (spBadSd K CD))
    (D6 : DefX P w K mg base 6 "from_steps" ["standing", "steps"] (spBadFs K CD)) (D7 : DefX P w K mg base 6 "from_steps" ["standing", "steps"] (spBadFp K CD)) : DefX P w K mg base 7 "_law_others_asked" ["_law_kind", "_law_which", "_law_more"] (spAskO CT CP CD) := by
  obtain ⟨f0, m0, F0⟩ := D2.at
  obtain ⟨f1, m1, F1⟩ := D3.at
  obtain ⟨f2, m2, F2⟩ := D4.at
  obtain ⟨f3, m3, F3⟩ := D5.at
  have F2 := fnAt_mono F2 (show 5 ≤ 6 by decide)
  refine S.okX scAskO (fun vs H Q E ⟨k, n, m, C, e, _⟩ => by rw [e]; rfl) (fun f cdv A outer s H vs Q E hr h => ?_)
  obtain ⟨k, n, m, C, rfl, hm, kd, rz⟩ := h
  have hr4 := hr.mono (show 4 ≤ 6 by decide)
  have hr2 := hr.mono (show 2 ≤ 6 by decide)
  rcases kd with ⟨rfl, rfl⟩ | ⟨rfl, rfl⟩ | ⟨rfl, rfl⟩
  · refine ⟨_, gSs (qCons (qIf (pt_cmpR op_eq (pv 0) pe_int (nomark _)) (qCons (qSet (i := 3) scAskO.nd rfl (Or.inl rfl) (qIx ix_list (qL (qaC qO (qaT1 (qaC qS (qaL (qL (qaB ⟨pe_op op_add pe_int (pv 2)⟩ q0)) (qaL (qL (qaB ⟨pe_op op_sub (pe_un un_neg pe_int) (pv 2)⟩ q0)) (qaL (qL (qaC qY q0)) (qaL (qL (qaC qS q0)) (qaL (qL (qaC qI q0)) q0))))))))) ⟨pe_op op_mod (pv 1) pe_int⟩ (fun _ _ => rfl)) rfl (.inl rfl))
      (qOne (qRet (qX D1 hr4 (by rfl) (pass1 fun _ _ _ q => q) (qaN ⟨pv 3⟩ q0) (by decide) rfl rfl)))) qNil) ⟨pss_never⟩), ?_⟩
    refine ⟨_, rfl, rfl, _, rfl, iteTd rfl ?_⟩
    refine ⟨by decide, fun b1 n1 => ?_⟩
    have t1 : (upd H b1 (.tup [.int 0])) b1 = some (.tup [.int 0]) := upd_same
    have s1 : Same H (upd H b1 (.tup [.int 0])) := Same.new n1
    generalize upd H b1 (.tup [.int 0]) = H1 at t1 s1
    refine ⟨_, rfl, _, _, rfl, rfl, (by show (1 : Nat) ≤ sizeLine; decide), fun b2 n2 => ?_⟩
    have t2 : (upd H1 b2 (.lst [.int (2 + (m : Int))])) b2 = some (.lst [.int (2 + (m : Int))]) := upd_same
    have s2 : Same H1 (upd H1 b2 (.lst [.int (2 + (m : Int))])) := Same.new n2
    generalize upd H1 b2 (.lst [.int (2 + (m : Int))]) = H2 at t2 s2
    refine ⟨_, rfl, _, rfl, _, _, rfl, rfl, (by show (1 : Nat) ≤ sizeLine; decide), fun b3 n3 => ?_⟩
    have t3 : (upd H2 b3 (.lst [.int (-1 - (m : Int))])) b3 = some (.lst [.int (-1 - (m : Int))]) := upd_same
    have s3 : Same H2 (upd H2 b3 (.lst [.int (-1 - (m : Int))])) := Same.new n3
    generalize upd H2 b3 (.lst [.int (-1 - (m : Int))]) = H3 at t3 s3
    refine ⟨by decide, fun b4 n4 => ?_⟩
    have t4 : (upd H3 b4 (.lst [.bl true])) b4 = some (.lst [.bl true]) := upd_same
    have s4 : Same H3 (upd H3 b4 (.lst [.bl true])) := Same.new n4
    generalize upd H3 b4 (.lst [.bl true]) = H4 at t4 s4
    refine ⟨by decide, fun b5 n5 => ?_⟩
    have t5 : (upd H4 b5 (.lst [.str "0"])) b5 = some (.lst [.str "0"]) := upd_same
    have s5 : Same H4 (upd H4 b5 (.lst [.str "0"])) := Same.new n5
    generalize upd H4 b5 (.lst [.str "0"]) = H5 at t5 s5
    refine ⟨by decide, fun b6 n6 => ?_⟩
    have t6 : (upd H5 b6 (.lst [.int 1])) b6 = some (.lst (vI [1])) := upd_same
    have s6 : Same H5 (upd H5 b6 (.lst [.int 1])) := Same.new n6
    generalize upd H5 b6 (.lst [.int 1]) = H6 at t6 s6
    refine ⟨(by show (8 : Nat) ≤ sizeLine; decide), fun bl nl => ?_⟩
    obtain ⟨v, ev, mv⟩ := pick (xs := [.non, .ref b1, .str "0", .ref b2, .ref b3, .ref b4, .ref b5, .ref b6]) (k := n % 8) (by show n % 8 < 8; omega)
    have s7 : Same H6 (upd H6 bl (.lst [.non, .ref b1, .str "0", .ref b2, .ref b3, .ref b4, .ref b5, .ref b6])) := Same.new nl
    refine ⟨_, rfl, _, _, rfl, rfl, (by show (0 : Int) < 8; decide), bl, _, _, v, rfl, rfl, SqL.of upd_same, ?_, ?_⟩
    · rw [show ((n : Nat) : Int) % 8 = ((n % 8 : Nat) : Int) by omega]
      exact ev
    generalize upd H6 bl (.lst [.non, .ref b1, .str "0", .ref b2, .ref b3, .ref b4, .ref b5, .ref b6]) = H7 at s7
    have q6 := s7
    have q5 := s6.trans q6
    have q4 := s5.trans q5
    have q3 := s4.trans q4
    have q2 := s3.trans q3
    have q1 := s2.trans q2
    have qq := s1.trans q1
    have bt : BT K H7 v := by
      simp only [List.mem_cons, List.not_mem_nil, or_false] at mv
      rcases mv with rfl | rfl | rfl | rfl | rfl | rfl | rfl | rfl
      · exact ⟨.non, .inl fun a xs e => by cases e⟩
      · exact ⟨.tup (q1 _ _ t1), .inl fun a xs e z => by cases e; rw [q1 _ _ t1] at z; cases z⟩
      · exact ⟨.str _, .inl fun a xs e => by cases e⟩
      · refine ⟨.lst (q2 _ _ t2), .inr ⟨_, _, rfl, q2 _ _ t2, fun x hx => ?_, (by show (1 : Nat) ≤ 63; decide), .inl ?_⟩⟩
        · rw [List.mem_singleton.mp hx]; exact .int _
        · show (!(decide (2 + (m : Int) < 0) || decide (((2 : Nat) : Int) ≤ 2 + (m : Int))) && true) = false
          rw [decide_eq_true (show ((2 : Nat) : Int) ≤ 2 + (m : Int) by omega), Bool.or_true]
          rfl
      · refine ⟨.lst (q3 _ _ t3), .inr ⟨_, _, rfl, q3 _ _ t3, fun x hx => ?_, (by show (1 : Nat) ≤ 63; decide), .inl ?_⟩⟩
        · rw [List.mem_singleton.mp hx]; exact .int _
        · show (!(decide (-1 - (m : Int) < 0) || decide (((2 : Nat) : Int) ≤ -1 - (m : Int))) && true) = false
          rw [decide_eq_true (show -1 - (m : Int) < 0 by omega)]
          rfl
      · exact ⟨.lst (q4 _ _ t4), .inr ⟨_, _, rfl, q4 _ _ t4, fun x hx => by rw [List.mem_singleton.mp hx]; exact .bl _, by decide, .inl rfl⟩⟩
      · exact ⟨.lst (q5 _ _ t5), .inr ⟨_, _, rfl, q5 _ _ t5, fun x hx => by rw [List.mem_singleton.mp hx]; exact .str _, by decide, .inl rfl⟩⟩
      · exact ⟨.lst (q6 _ _ t6), .inr ⟨_, _, rfl, q6 _ _ t6, anyI K H7 [1], by decide, .inr rfl⟩⟩
    exact ⟨_, rfl, bt_refused bt (rz.stay qq)⟩
  · refine ⟨_, gSs (qCons (qIf (pt_cmpR op_eq (pv 0) pe_int (nomark _)) ⟨pss_never⟩ qNil)
      (qCons (qIf (pt_cmpR op_eq (pv 0) pe_int (nomark _)) (qCons (qSet (i := 3) scAskO.nd rfl (Or.inl rfl) (qIx ix_list (qL (qaC qO (qaC qI (qaL (qL (qaC qS (qaC qS q0))) (qaC qS (qaC qS (qaC qS (qaB ⟨pe_op op_mulS pe_str (pe_op op_add pe_int (pv 2))⟩ q0)))))))) ⟨pe_op op_mod (pv 1) pe_int⟩ (fun _ _ => rfl)) rfl (.inl rfl))
        (qOne (qRet (qV (qIx ix_list (qL (qaN ⟨pe_glob (v := .ref f0) (by rfl) m0 rfl⟩ (qaN ⟨pe_glob (v := .ref f1) (by rfl) m1 rfl⟩ q0))) ⟨pe_op op_mod (pe_op op_fdiv (pv 1) pe_int) pe_int⟩ (fun _ _ => rfl)) hr2 (pass1 fun _ _ _ q => q) (qaN ⟨pv 3⟩ q0) rfl rfl)))) qNil) ⟨pss_never⟩)), ?_⟩
    refine ⟨_, rfl, rfl, _, rfl, iteFd (by show ¬ V.int 3 = V.int 2; decide) ?_⟩
    refine ⟨_, rfl, rfl, _, rfl, iteTd rfl ?_⟩
    refine ⟨by decide, fun b1 n1 => ?_⟩
    have t1 : (upd H b1 (.lst [.str "u", .str "d"])) b1 = some (.lst [.str "u", .str "d"]) := upd_same
    have s1 : Same H (upd H b1 (.lst [.str "u", .str "d"])) := Same.new n1
    generalize upd H b1 (.lst [.str "u", .str "d"]) = H1 at t1 s1
    have em : (1 : Int) + (m : Int) = ((1 + m : Nat) : Int) := by omega
    refine ⟨_, rfl, _, _, rfl, rfl, "u", 1 + m, rfl, (by show V.int (1 + (m : Int)) = _; rw [em]), by decide, by omega, ?_⟩
    rw [s_u, tx_rep]
    refine ⟨(by show (7 : Nat) ≤ sizeLine; decide), fun bl nl => ?_⟩
    obtain ⟨v, ev, mv⟩ := pick (xs := [.non, .int 5, .ref b1, .str "d", .str (tx [117]), .str "udd", .str (tx (List.replicate (1 + m) 117))]) (k := n % 7) (by show n % 7 < 7; omega)
    have s2 : Same H1 (upd H1 bl (.lst [.non, .int 5, .ref b1, .str "d", .str (tx [117]), .str "udd", .str (tx (List.replicate (1 + m) 117))])) := Same.new nl
    refine ⟨_, rfl, _, _, rfl, rfl, (by show (0 : Int) < 7; decide), bl, _, _, v, rfl, rfl, SqL.of upd_same, ?_, ?_⟩
    · rw [show ((n : Nat) : Int) % 7 = ((n % 7 : Nat) : Int) by omega]
      exact ev
    generalize upd H1 bl (.lst [.non, .int 5, .ref b1, .str "d", .str (tx [117]), .str "udd", .str (tx (List.replicate (1 + m) 117))]) = H2 at s2
    have qq := s1.trans s2
    have bp : Any K H2 v ∧ BPh v := by
      simp only [List.mem_cons, List.not_mem_nil, or_false] at mv
      rcases mv with rfl | rfl | rfl | rfl | rfl | rfl | rfl
      · exact ⟨.non, .inl fun z e => by cases e⟩
      · exact ⟨.int _, .inl fun z e => by cases e⟩
      · exact ⟨.lst (s2 _ _ t1), .inl fun z e => by cases e⟩
      · exact ⟨.str _, .inr ⟨[100], by rw [s_d], by decide, by decide⟩⟩
      · exact ⟨.str _, .inr ⟨[117], rfl, by decide, by decide⟩⟩
      · exact ⟨.str _, .inr ⟨[117, 100, 100], by rw [s_udd], by decide, by decide⟩⟩
      · refine ⟨.str _, .inr ⟨List.replicate (1 + m) 117, rfl, by rw [List.length_replicate]; omega, Pk.goodP_no (.inr ?_)⟩⟩
        rw [(wk_rep (1 + m)).2]
        omega
    have rz2 := rz.stay qq
    clear s1 s2 qq t1 ev mv
    refine ⟨(by show (2 : Nat) ≤ sizeLine; decide), fun l1 nl1 => ?_⟩
    have sA : Same H2 (upd H2 l1 (.lst [.ref f0, .ref f1])) := Same.new nl1
    have d2 : n / 7 % 2 = 0 ∨ n / 7 % 2 = 1 := by omega
    have ed : ((n : Nat) : Int) / 7 % 2 = ((n / 7 % 2 : Nat) : Int) := by omega
    rcases d2 with e | e
    · refine ⟨_, rfl, _, _, rfl, rfl, ⟨by decide, by decide⟩, _, _, rfl, rfl, (by show (0 : Int) < 2; decide), l1, _, _, .ref f0, rfl, rfl, SqL.of upd_same, ?_, f0, _, _, rfl, F0, _, rfl, beneath_refused (bp.1.stay sA) bp.2 (rz2.stay sA)⟩
      rw [ed, e]
      exact atI_nat (j := 0) rfl
    · refine ⟨_, rfl, _, _, rfl, rfl, ⟨by decide, by decide⟩, _, _, rfl, rfl, (by show (0 : Int) < 2; decide), l1, _, _, .ref f1, rfl, rfl, SqL.of upd_same, ?_, f1, _, _, rfl, F1, _, rfl, rising_refused (bp.1.stay sA) bp.2 (rz2.stay sA)⟩
      rw [ed, e]
      exact atI_nat (j := 1) rfl
  · refine ⟨_, gSs (qCons (qIf (pt_cmpR op_eq (pv 0) pe_int (nomark _)) ⟨pss_never⟩ qNil) (qCons (qIf (pt_cmpR op_eq (pv 0) pe_int (nomark _)) ⟨pss_never⟩ qNil)
      (qCons (qSet (i := 3) scAskO.nd rfl (Or.inl rfl) (qIx ix_list (qL (qaC qO (qaT1 (qaC qS (qaL (qL (qaC qI q0)) (qaL (qL (qaC qI (qaC qI q0))) (qaL (qL (qaB ⟨pe_op op_sub (pe_un un_neg pe_int) (pv 2)⟩ (qaC qI q0))) (qaL (qL (qaC qI (qaB ⟨pe_op op_add pe_int (pv 2)⟩ q0))) (qaL (qL (qaC qY (qaC qI q0))) (qaL (qL (qaC qO q0)) q0)))))))))) ⟨pe_op op_mod (pv 1) pe_int⟩ (fun _ _ => rfl)) rfl (.inl rfl))
      (qCons (qSet (i := 4) scAskO.nd rfl (Or.inl rfl) ⟨pe_op op_mod (pe_op op_fdiv (pv 1) pe_int) pe_int⟩ rfl (.inl rfl))
      (qCons (qIf (pt_cmp (pc_lt (pv 4) pe_int)) (qOne (qRet (qV (qIx ix_list (qL (qaN ⟨pe_glob (v := .ref f2) (by rfl) m2 rfl⟩ (qaN ⟨pe_glob (v := .ref f3) (by rfl) m3 rfl⟩ q0))) ⟨pv 4⟩ (fun _ _ => rfl)) hr (pass1 fun _ _ _ q => q) (qaN ⟨pv 3⟩ q0) rfl rfl))) qNil)
      (qCons (qIf (pt_cmpR op_eq (pv 4) pe_int (nomark _)) (qOne (qRet (qX D6 hr (by rfl) (pass1 fun _ _ _ q => q) (qaN ⟨pv 3⟩ (qaL (qL (qaC qI q0)) q0)) (by decide) rfl rfl))) qNil)
      (qCons (qSet (i := 5) scAskO.nd rfl (Or.inl rfl) (qL (qaC qO (qaT2 (qaL (qL (qaC qI q0)) (qaL (qL (qaC qI (qaC qI q0))) (qaL (qL (qaC qI (qaB ⟨pe_op op_sub (pe_un un_neg pe_int) (pv 2)⟩ q0))) (qaL (qL (qaC qI (qaC qY q0))) (qaL (qL (qaC qI (qaC qS q0))) (qaL (qL (qaC qI (qaC qI q0))) (qaL (qL (qaC qI (qaC qI (qaC qI q0)))) q0)))))))))) rfl (.inl rfl))
      (qOne (qRet (qX D7 hr (by rfl) (pass1 fun _ _ _ q => q) (qaL (qL (qaC qI (qaC qI q0))) (qaS (qIx ix_list ⟨pv 5⟩ ⟨pe_op op_mod (pv 1) pe_int⟩ (fun _ _ => rfl)) q0)) (by decide) rfl rfl)))))))))), ?_⟩
    refine ⟨_, rfl, rfl, _, rfl, iteFd (by show ¬ V.int 4 = V.int 2; decide) ?_⟩
    refine ⟨_, rfl, rfl, _, rfl, iteFd (by show ¬ V.int 4 = V.int 3; decide) ?_⟩
    refine ⟨by decide, fun b1 n1 => ?_⟩
    have t1 : (upd H b1 (.tup [.int 0])) b1 = some (.tup [.int 0]) := upd_same
    have s1 : Same H (upd H b1 (.tup [.int 0])) := Same.new n1
    generalize upd H b1 (.tup [.int 0]) = H1 at t1 s1
    refine ⟨by decide, fun b2 n2 => ?_⟩
    have t2 : (upd H1 b2 (.lst [.int 1])) b2 = some (.lst [.int 1]) := upd_same
    have s2 : Same H1 (upd H1 b2 (.lst [.int 1])) := Same.new n2
    generalize upd H1 b2 (.lst [.int 1]) = H2 at t2 s2
    refine ⟨by decide, fun b3 n3 => ?_⟩
    have t3 : (upd H2 b3 (.lst [.int 0, .int 0])) b3 = some (.lst [.int 0, .int 0]) := upd_same
    have s3 : Same H2 (upd H2 b3 (.lst [.int 0, .int 0])) := Same.new n3
    generalize upd H2 b3 (.lst [.int 0, .int 0]) = H3 at t3 s3
    refine ⟨_, rfl, _, rfl, _, _, rfl, rfl, (by show (2 : Nat) ≤ sizeLine; decide), fun b4 n4 => ?_⟩
    have t4 : (upd H3 b4 (.lst [.int (-1 - (m : Int)), .int 0])) b4 = some (.lst [.int (-1 - (m : Int)), .int 0]) := upd_same
    have s4 : Same H3 (upd H3 b4 (.lst [.int (-1 - (m : Int)), .int 0])) := Same.new n4
    generalize upd H3 b4 (.lst [.int (-1 - (m : Int)), .int 0]) = H4 at t4 s4
    refine ⟨_, rfl, _, _, rfl, rfl, (by show (2 : Nat) ≤ sizeLine; decide), fun b5 n5 => ?_⟩
    have t5 : (upd H4 b5 (.lst [.int 0, .int (2 + (m : Int))])) b5 = some (.lst [.int 0, .int (2 + (m : Int))]) := upd_same
    have s5 : Same H4 (upd H4 b5 (.lst [.int 0, .int (2 + (m : Int))])) := Same.new n5
    generalize upd H4 b5 (.lst [.int 0, .int (2 + (m : Int))]) = H5 at t5 s5
    refine ⟨by decide, fun b6 n6 => ?_⟩
    have t6 : (upd H5 b6 (.lst [.bl true, .int 0])) b6 = some (.lst [.bl true, .int 0]) := upd_same
    have s6 : Same H5 (upd H5 b6 (.lst [.bl true, .int 0])) := Same.new n6
    generalize upd H5 b6 (.lst [.bl true, .int 0]) = H6 at t6 s6
    refine ⟨by decide, fun b7 n7 => ?_⟩
    have t7 : (upd H6 b7 (.lst [.non])) b7 = some (.lst [.non]) := upd_same
    have s7 : Same H6 (upd H6 b7 (.lst [.non])) := Same.new n7
    generalize upd H6 b7 (.lst [.non]) = H7 at t7 s7
    refine ⟨(by show (9 : Nat) ≤ sizeLine; decide), fun bl nl => ?_⟩
    obtain ⟨v, ev, mv⟩ := pick (xs := [.non, .ref b1, .str "0", .ref b2, .ref b3, .ref b4, .ref b5, .ref b6, .ref b7]) (k := n % 9) (by show n % 9 < 9; omega)
    have s8 : Same H7 (upd H7 bl (.lst [.non, .ref b1, .str "0", .ref b2, .ref b3, .ref b4, .ref b5, .ref b6, .ref b7])) := Same.new nl
    refine ⟨_, rfl, _, _, rfl, rfl, (by show (0 : Int) < 9; decide), bl, _, _, v, rfl, rfl, SqL.of upd_same, ?_, ?_⟩
    · rw [show ((n : Nat) : Int) % 9 = ((n % 9 : Nat) : Int) by omega]
      exact ev
    generalize upd H7 bl (.lst [.non, .ref b1, .str "0", .ref b2, .ref b3, .ref b4, .ref b5, .ref b6, .ref b7]) = H8 at s8
    have q7 := s8
    have q6 := s7.trans q7
    have q5 := s6.trans q6
    have q4 := s5.trans q5
    have q3 := s4.trans q4
    have q2 := s3.trans q3
    have q1 := s2.trans q2
    have qq := s1.trans q1
    have bs : Any K H8 v ∧ BadS K H8 v := by
      simp only [List.mem_cons, List.not_mem_nil, or_false] at mv
      rcases mv with rfl | rfl | rfl | rfl | rfl | rfl | rfl | rfl | rfl
      · exact ⟨.non, .inl (.inl fun a xs e => by cases e)⟩
      · exact ⟨.tup (q1 _ _ t1), .inl (.inl fun a xs e z => by cases e; rw [q1 _ _ t1] at z; cases z)⟩
      · exact ⟨.str _, .inl (.inl fun a xs e => by cases e)⟩
      · exact ⟨.lst (q2 _ _ t2), .inl (.inr ⟨_, _, rfl, q2 _ _ t2, fun x hx => by rw [List.mem_singleton.mp hx]; exact .int _, rfl⟩)⟩
      · exact ⟨.lst (q3 _ _ t3), .inr ⟨_, rfl, q3 _ _ t3⟩⟩
      · refine ⟨.lst (q4 _ _ t4), .inl (.inr ⟨_, _, rfl, q4 _ _ t4, fun x hx => ?_, ?_⟩)⟩
        · simp only [List.mem_cons, List.not_mem_nil, or_false] at hx
          rcases hx with rfl | rfl <;> exact .int _
        · show (!(decide (-1 - (m : Int) < 0) || decide (((2 : Nat) : Int) ≤ -1 - (m : Int))) && _) = false
          rw [decide_eq_true (show -1 - (m : Int) < 0 by omega)]
          rfl
      · refine ⟨.lst (q5 _ _ t5), .inl (.inr ⟨_, _, rfl, q5 _ _ t5, fun x hx => ?_, ?_⟩)⟩
        · simp only [List.mem_cons, List.not_mem_nil, or_false] at hx
          rcases hx with rfl | rfl <;> exact .int _
        · show (true && (!(decide (2 + (m : Int) < 0) || decide (((2 : Nat) : Int) ≤ 2 + (m : Int))) && true)) = false
          rw [decide_eq_true (show ((2 : Nat) : Int) ≤ 2 + (m : Int) by omega), Bool.or_true]
          rfl
      · refine ⟨.lst (q6 _ _ t6), .inl (.inr ⟨_, _, rfl, q6 _ _ t6, fun x hx => ?_, rfl⟩)⟩
        simp only [List.mem_cons, List.not_mem_nil, or_false] at hx
        rcases hx with rfl | rfl
        · exact .bl _
        · exact .int _
      · exact ⟨.lst (q7 _ _ t7), .inl (.inr ⟨_, _, rfl, q7 _ _ t7, fun x hx => by rw [List.mem_singleton.mp hx]; exact .non, rfl⟩)⟩
    have rz8 := rz.stay qq
    obtain ⟨av, bv⟩ := bs
    clear s1 s2 s3 s4 s5 s6 s7 s8 q1 q2 q3 q4 q5 q6 q7 qq t1 t2 t3 t4 t5 t6 t7 ev mv
    refine ⟨_, rfl, _, _, rfl, rfl, ⟨by decide, by decide⟩, _, _, rfl, rfl, (by show (0 : Int) < 4; decide), ?_⟩
    have ed : ((n : Nat) : Int) / 9 % 4 = ((n / 9 % 4 : Nat) : Int) := by omega
    obtain ⟨d, edd⟩ : ∃ d, n / 9 % 4 = d := ⟨_, rfl⟩
    have d4 : d < 4 := by omega
    rw [edd] at ed
    show gName 4 (V.int (((n : Nat) : Int) / 9 % 4)) _ _ _
    rw [ed]
    refine g_name ?_
    refine ⟨_, rfl, _, _, rfl, rfl, _, rfl, ite2d (fun c2 => ?_) (fun c2 => ?_)⟩
    · refine ⟨(by show (2 : Nat) ≤ sizeLine; decide), fun l1 nl1 => ?_⟩
      have sA : Same H8 (upd H8 l1 (.lst [.ref f2, .ref f3])) := Same.new nl1
      obtain ⟨g, hg, G⟩ := at_door (P := P) (w := w) (mg := mg) (base := base) (k := 6) (ps := ["standing"]) (sp := spBadSd K C) (fs := [f2, f3]) (by
        intro f hf
        simp only [List.mem_cons, List.not_mem_nil, or_false] at hf
        rcases hf with rfl | rfl <;> assumption) (d := d) (by show d < 2; omega)
      exact ⟨_, rfl, l1, _, _, .ref g, rfl, rfl, SqL.of upd_same, atI_nat hg, g, _, _, rfl, G, _, rfl, v, rfl, av.stay sA, bv.stay av sA, rz8.stay sA⟩
    · refine ⟨_, rfl, rfl, _, rfl, ite2d (fun c3 => ?_) (fun c3 => ?_)⟩
      · refine ⟨_, rfl, by decide, fun l1 nl1 => ?_⟩
        have sA : Same H8 (upd H8 l1 (.lst [.int 0])) := Same.new nl1
        exact ⟨v, _, rfl, av.stay sA, bv.stay av sA, rz8.stay sA⟩
      · clear av bv
        refine ⟨by decide, fun b1 n1 => ?_⟩
        have t1 : (upd H8 b1 (.tup [.int 0, .int 0])) b1 = some (.tup [.int 0, .int 0]) := upd_same
        have s1 : Same H8 (upd H8 b1 (.tup [.int 0, .int 0])) := Same.new n1
        generalize upd H8 b1 (.tup [.int 0, .int 0]) = H1 at t1 s1
        refine ⟨by decide, fun b2 n2 => ?_⟩
        have t2 : (upd H1 b2 (.lst [.int 0])) b2 = some (.lst [.int 0]) := upd_same
        have s2 : Same H1 (upd H1 b2 (.lst [.int 0])) := Same.new n2
        generalize upd H1 b2 (.lst [.int 0]) = H2 at t2 s2
        refine ⟨by decide, fun b3 n3 => ?_⟩
        have t3 : (upd H2 b3 (.lst [.int 0, .int 2])) b3 = some (.lst [.int 0, .int 2]) := upd_same
        have s3 : Same H2 (upd H2 b3 (.lst [.int 0, .int 2])) := Same.new n3
        generalize upd H2 b3 (.lst [.int 0, .int 2]) = H3 at t3 s3
        refine ⟨_, rfl, _, rfl, _, _, rfl, rfl, (by show (2 : Nat) ≤ sizeLine; decide), fun b4 n4 => ?_⟩
        have t4 : (upd H3 b4 (.lst [.int 0, .int (-1 - (m : Int))])) b4 = some (.lst [.int 0, .int (-1 - (m : Int))]) := upd_same
        have s4 : Same H3 (upd H3 b4 (.lst [.int 0, .int (-1 - (m : Int))])) := Same.new n4
        generalize upd H3 b4 (.lst [.int 0, .int (-1 - (m : Int))]) = H4 at t4 s4
        refine ⟨by decide, fun b5 n5 => ?_⟩
        have t5 : (upd H4 b5 (.lst [.int 0, .bl true])) b5 = some (.lst [.int 0, .bl true]) := upd_same
        have s5 : Same H4 (upd H4 b5 (.lst [.int 0, .bl true])) := Same.new n5
        generalize upd H4 b5 (.lst [.int 0, .bl true]) = H5 at t5 s5
        refine ⟨by decide, fun b6 n6 => ?_⟩
        have t6 : (upd H5 b6 (.lst [.int 0, .str "1"])) b6 = some (.lst [.int 0, .str "1"]) := upd_same
        have s6 : Same H5 (upd H5 b6 (.lst [.int 0, .str "1"])) := Same.new n6
        generalize upd H5 b6 (.lst [.int 0, .str "1"]) = H6 at t6 s6
        refine ⟨by decide, fun b7 n7 => ?_⟩
        have t7 : (upd H6 b7 (.lst [.int 1, .int 0])) b7 = some (.lst [.int 1, .int 0]) := upd_same
        have s7 : Same H6 (upd H6 b7 (.lst [.int 1, .int 0])) := Same.new n7
        generalize upd H6 b7 (.lst [.int 1, .int 0]) = H7 at t7 s7
        refine ⟨by decide, fun b8 n8 => ?_⟩
        have t8 : (upd H7 b8 (.lst [.int 0, .int 0, .int 0])) b8 = some (.lst [.int 0, .int 0, .int 0]) := upd_same
        have s8 : Same H7 (upd H7 b8 (.lst [.int 0, .int 0, .int 0])) := Same.new n8
        generalize upd H7 b8 (.lst [.int 0, .int 0, .int 0]) = H9 at t8 s8
        refine ⟨(by show (9 : Nat) ≤ sizeLine; decide), fun bl nl => ?_⟩
        obtain ⟨u, eu, mu⟩ := pick (xs := [.non, .ref b1, .ref b2, .ref b3, .ref b4, .ref b5, .ref b6, .ref b7, .ref b8]) (k := n % 9) (by show n % 9 < 9; omega)
        have s9 : Same H9 (upd H9 bl (.lst [.non, .ref b1, .ref b2, .ref b3, .ref b4, .ref b5, .ref b6, .ref b7, .ref b8])) := Same.new nl
        have tl : (upd H9 bl (.lst [.non, .ref b1, .ref b2, .ref b3, .ref b4, .ref b5, .ref b6, .ref b7, .ref b8])) bl = some (.lst [.non, .ref b1, .ref b2, .ref b3, .ref b4, .ref b5, .ref b6, .ref b7, .ref b8]) := upd_same
        refine g_name ?_
        generalize upd H9 bl (.lst [.non, .ref b1, .ref b2, .ref b3, .ref b4, .ref b5, .ref b6, .ref b7, .ref b8]) = Ha at s9 tl
        refine ⟨by decide, fun la na => ?_⟩
        have sa : Same Ha (upd Ha la (.lst [.int 0, .int 1])) := Same.new na
        have ta : (upd Ha la (.lst [.int 0, .int 1])) la = some (.lst (vI [0, 1])) := upd_same
        generalize upd Ha la (.lst [.int 0, .int 1]) = Hb at sa ta
        refine ⟨_, rfl, _, rfl, _, _, rfl, rfl, (by show (0 : Int) < 9; decide), bl, _, _, u, rfl, rfl, SqL.of (sa _ _ tl), ?_, ?_⟩
        · rw [show ((n : Nat) : Int) % 9 = ((n % 9 : Nat) : Int) by omega]
          exact eu
        have q8 := s9.trans sa
        have q7 := s8.trans q8
        have q6 := s7.trans q7
        have q5 := s6.trans q6
        have q4 := s5.trans q5
        have q3 := s4.trans q4
        have q2 := s3.trans q3
        have q1 := s2.trans q2
        have qq := s1.trans q1
        have bs : Any K Hb u ∧ BadP K Hb [0, 1] u := by
          simp only [List.mem_cons, List.not_mem_nil, or_false] at mu
          rcases mu with rfl | rfl | rfl | rfl | rfl | rfl | rfl | rfl | rfl
          · exact ⟨.non, .inl fun a xs e => by cases e⟩
          · exact ⟨.tup (q1 _ _ t1), .inl fun a xs e z => by cases e; rw [q1 _ _ t1] at z; cases z⟩
          · exact ⟨.lst (q2 _ _ t2), .inr ⟨_, _, rfl, q2 _ _ t2, fun x hx => by rw [List.mem_singleton.mp hx]; exact .int _, by decide, .inl (by decide)⟩⟩
          · refine ⟨.lst (q3 _ _ t3), .inr ⟨_, _, rfl, q3 _ _ t3, fun x hx => ?_, by decide, .inr ⟨1, .int 2, 1, rfl, rfl, rfl⟩⟩⟩
            simp only [List.mem_cons, List.not_mem_nil, or_false] at hx
            rcases hx with rfl | rfl <;> exact .int _
          · refine ⟨.lst (q4 _ _ t4), .inr ⟨_, _, rfl, q4 _ _ t4, fun x hx => ?_, (by show (2 : Nat) ≤ 900; decide), .inr ⟨1, .int (-1 - (m : Int)), 1, rfl, rfl, ?_⟩⟩⟩
            · simp only [List.mem_cons, List.not_mem_nil, or_false] at hx
              rcases hx with rfl | rfl <;> exact .int _
            · show (decide (-1 - (m : Int) < 0) || decide (((1 : Nat) : Int) < -1 - (m : Int))) = true
              rw [decide_eq_true (show -1 - (m : Int) < 0 by omega)]
              rfl
          · refine ⟨.lst (q5 _ _ t5), .inr ⟨_, _, rfl, q5 _ _ t5, fun x hx => ?_, by decide, .inr ⟨1, .bl true, 1, rfl, rfl, rfl⟩⟩⟩
            simp only [List.mem_cons, List.not_mem_nil, or_false] at hx
            rcases hx with rfl | rfl
            · exact .int _
            · exact .bl _
          · refine ⟨.lst (q6 _ _ t6), .inr ⟨_, _, rfl, q6 _ _ t6, fun x hx => ?_, by decide, .inr ⟨1, .str "1", 1, rfl, rfl, rfl⟩⟩⟩
            simp only [List.mem_cons, List.not_mem_nil, or_false] at hx
            rcases hx with rfl | rfl
            · exact .int _
            · exact .str _
          · refine ⟨.lst (q7 _ _ t7), .inr ⟨_, _, rfl, q7 _ _ t7, fun x hx => ?_, by decide, .inr ⟨0, .int 1, 0, rfl, rfl, rfl⟩⟩⟩
            simp only [List.mem_cons, List.not_mem_nil, or_false] at hx
            rcases hx with rfl | rfl <;> exact .int _
          · refine ⟨.lst (q8 _ _ t8), .inr ⟨_, _, rfl, q8 _ _ t8, fun x hx => ?_, by decide, .inl (by decide)⟩⟩
            simp only [List.mem_cons, List.not_mem_nil, or_false] at hx
            rcases hx with rfl | rfl | rfl <;> exact .int _
        refine ⟨la, [0, 1], u, rfl, ta, by decide, stn01, bs.1, ?_, rz8.stay qq⟩
        show BadP K Hb (mst [0, 1] 2) u
        rw [mst01]
        exact bs.2
def dueB (k : Nat) : List Bool := [decide (k = 0), decide (k = 1), decide (k = 2), decide (k = 3), decide (k = 4), false, true]
def spTold : Sp := fun vs H Q _ => ∃ (k n m : Nat), vs = [.int (k : Int), .int (n : Int), .int (m : Int)] ∧ k < 5 ∧ m < 1000 ∧ ∀ (l : Addr) (H' : Hp), H l = none → H' l = some (.lst ((dueB k).map V.bl)) → Same H H' → Q (.ref l) H'
theorem scTold : FnScope ["_law_kind", "_law_which", "_law_more", "error", "_law_found"] ["_law_kind", "_law_which", "_law_more"] (defScope sTold) := ⟨rfl, rfl, rfl, by decide +kernel, rfl, by decide +kernel, by decide +kernel⟩
set_option maxHeartbeats 16000000 in
theorem d_told {CS CW CM CT CP CD CX : Addr} (S : Src K mg "_law_told" sTold ["_law_kind", "_law_which", "_law_more"]) (B : Bt K mg) (N : Xs K mg CS CW CM CT CP CD CX)
    (Z0 : Xk K CW CS CW CM CT CP CD CX true false false false false false) (Z1 : Xk K CM CS CW CM CT CP CD CX false true false false false false) (Z2 : Xk K CT CS CW CM CT CP CD CX false false true false false false) (Z3 : Xk K CP CS CW CM CT CP CD CX false false false true false false) (Z4 : Xk K CD CS CW CM CT CP CD CX false false false false true false)
    (D1 : DefX P w K mg base 7 "_law_wishes_asked" ["_law_which", "_law_more"] (spAskW K CW)) (D2 : DefX P w K mg base 7 "_law_many_asked" ["_law_which", "_law_more"] (spAskM CM)) (D3 : DefX P w K mg base 7 "_law_others_asked" ["_law_kind", "_law_which", "_law_more"] (spAskO CT CP CD)) :
    Def P w K mg base 8 "_law_told" ["_law_kind", "_law_which", "_law_more"] spTold := by
  refine S.ok scTold (fun vs H Q E h => ?_) (fun f cdv A outer s H vs Q E hr h => ?_)
  · obtain ⟨k, n, m, rfl, _⟩ := h
    rfl
  obtain ⟨k, n, m, rfl, hk, hm, kk⟩ := h
  obtain ⟨C, Z, kc⟩ : ∃ C, Xk K C CS CW CM CT CP CD CX (decide (k = 0)) (decide (k = 1)) (decide (k = 2)) (decide (k = 3)) (decide (k = 4)) false ∧ ((k = 0 ∧ C = CW) ∨ (k = 1 ∧ C = CM) ∨ (k = 2 ∧ C = CT) ∨ (k = 3 ∧ C = CP) ∨ (k = 4 ∧ C = CD)) := by
    have : k = 0 ∨ k = 1 ∨ k = 2 ∨ k = 3 ∨ k = 4 := by omega
    rcases this with rfl | rfl | rfl | rfl | rfl
    · exact ⟨CW, Z0, .inl ⟨rfl, rfl⟩⟩
    · exact ⟨CM, Z1, .inr (.inl ⟨rfl, rfl⟩)⟩
    · exact ⟨CT, Z2, .inr (.inr (.inl ⟨rfl, rfl⟩))⟩
    · exact ⟨CP, Z3, .inr (.inr (.inr (.inl ⟨rfl, rfl⟩)))⟩
    · exact ⟨CD, Z4, .inr (.inr (.inr (.inr ⟨rfl, rfl⟩)))⟩
  refine ⟨_, gSs (qCons ⟨ps_try (fun c _ H' => c = .ref C ∧ Same H H') rfl rfl rfl scTold.nd (i := 3) rfl (by rfl) N.ms
      (fun pn xe hx => gSs (qOne (qIf (pt_cmpR op_eq (pv 0) pe_int (nomark _)) (qOne (qDrop (qX D1 hr (by rfl) hx (qaN ⟨pv 1⟩ (qaN ⟨pv 2⟩ q0)) (by decide) rfl rfl) rfl))
        (qOne (qIf (pt_cmpR op_eq (pv 0) pe_int (nomark _)) (qOne (qDrop (qX D2 hr (by rfl) hx (qaN ⟨pv 1⟩ (qaN ⟨pv 2⟩ q0)) (by decide) rfl rfl) rfl))
          (qOne (qDrop (qX D3 hr (by rfl) hx (qaN ⟨pv 0⟩ (qaN ⟨pv 1⟩ (qaN ⟨pv 2⟩ q0))) (by decide) rfl rfl) rfl)))))))
      (fun x => gSs (qCons (qSet (i := 4) scTold.nd rfl (Or.inl rfl) (qL (qaF ⟨pe_callB call_isiX (by rfl) B.isi b_isi (pa_cons (pv 3) (pa_cons (pe_glob (v := .ref CW) (by rfl) N.mw rfl) pa_nil))⟩
          (qaF ⟨pe_callB call_isiX (by rfl) B.isi b_isi (pa_cons (pv 3) (pa_cons (pe_glob (v := .ref CM) (by rfl) N.mm rfl) pa_nil))⟩ (qaF ⟨pe_callB call_isiX (by rfl) B.isi b_isi (pa_cons (pv 3) (pa_cons (pe_glob (v := .ref CT) (by rfl) N.mt rfl) pa_nil))⟩ q0)))) rfl (.inl rfl))
        (qCons (qSet (i := 4) scTold.nd rfl (Or.inl rfl) (qOp op_cat ⟨pv 4⟩ (qL (qaF ⟨pe_callB call_isiX (by rfl) B.isi b_isi (pa_cons (pv 3) (pa_cons (pe_glob (v := .ref CP) (by rfl) N.mp rfl) pa_nil))⟩
          (qaF ⟨pe_callB call_isiX (by rfl) B.isi b_isi (pa_cons (pv 3) (pa_cons (pe_glob (v := .ref CD) (by rfl) N.md rfl) pa_nil))⟩ (qaF ⟨pe_callB call_isiX (by rfl) B.isi b_isi (pa_cons (pv 3) (pa_cons (pe_glob (v := .ref CX) (by rfl) N.mx rfl) pa_nil))⟩ q0))))) rfl (.inl rfl))
        (qOne (qRet (qOp op_cat ⟨pv 4⟩ (qL (qaF ⟨pe_callB call_isiX (by rfl) B.isi b_isi (pa_cons (pv 3) (pa_cons (pe_bltn (v := .ty "ValueError") (by rfl) N.ve b_ve rfl) pa_nil))⟩ q0))))))))⟩
    (qOne (qRet (qL q0)))), ?_⟩
  refine ⟨?_, ?_⟩
  · rcases kc with ⟨rfl, rfl⟩ | kc
    · refine ⟨_, rfl, rfl, _, rfl, iteTd rfl ?_⟩
      exact ⟨_, rfl, _, rfl, n, m, rfl, hm, fun H' sm => ⟨rfl, sm⟩⟩
    · refine ⟨_, rfl, rfl, _, rfl, iteFd (fun z => ?_) ?_⟩
      · have z := V.int.inj z
        omega
      rcases kc with ⟨rfl, rfl⟩ | kc
      · refine ⟨_, rfl, rfl, _, rfl, iteTd rfl ?_⟩
        exact ⟨_, rfl, _, rfl, n, m, rfl, hm, fun H' sm => ⟨rfl, sm⟩⟩
      · refine ⟨_, rfl, rfl, _, rfl, iteFd (fun z => ?_) ?_⟩
        · have z := V.int.inj z
          omega
        exact ⟨_, rfl, _, rfl, _, rfl, k, n, m, C, rfl, hm, kc, fun H' sm => ⟨rfl, sm⟩⟩
  rintro c H' ⟨rfl, sm⟩
  refine ⟨C, rfl, Z.es, fun x nx => ?_⟩
  have s1 : Same H (upd H' x (xO x C)) := sm.next nx
  have hx0 : (upd H' x (xO x C)) x = some (xO x C) := upd_same
  generalize upd H' x (xO x C) = H1 at s1 hx0
  refine ⟨_, rfl, x, C, _, _, _, rfl, hx0, Z.xc, .inr ⟨_, rfl, rfl⟩, Z.kw, ?_⟩
  refine ⟨_, rfl, x, C, _, _, _, rfl, hx0, Z.xc, .inr ⟨_, rfl, rfl⟩, Z.km, ?_⟩
  refine ⟨_, rfl, x, C, _, _, _, rfl, hx0, Z.xc, .inr ⟨_, rfl, rfl⟩, Z.kt, ?_⟩
  refine ⟨(by show (3 : Nat) ≤ sizeLine; decide), fun l nl => ?_⟩
  have hx1 : (upd H1 l (.lst [.bl (decide (k = 0)), .bl (decide (k = 1)), .bl (decide (k = 2))])) x = some (xO x C) := by rw [upd_ne (ne_of_none hx0 nl)]; exact hx0
  have hl1 : (upd H1 l (.lst [.bl (decide (k = 0)), .bl (decide (k = 1)), .bl (decide (k = 2))])) l = some (.lst [.bl (decide (k = 0)), .bl (decide (k = 1)), .bl (decide (k = 2))]) := upd_same
  have s2 := s1.next (o := .lst [.bl (decide (k = 0)), .bl (decide (k = 1)), .bl (decide (k = 2))]) nl
  refine g_name ?_
  generalize upd H1 l (.lst [.bl (decide (k = 0)), .bl (decide (k = 1)), .bl (decide (k = 2))]) = H2 at s2 hx1 hl1
  refine ⟨_, rfl, ?_⟩
  refine ⟨_, rfl, x, C, _, _, _, rfl, hx1, Z.xc, .inr ⟨_, rfl, rfl⟩, Z.kp, ?_⟩
  refine ⟨_, rfl, x, C, _, _, _, rfl, hx1, Z.xc, .inr ⟨_, rfl, rfl⟩, Z.kd, ?_⟩
  refine ⟨_, rfl, x, C, _, _, _, rfl, hx1, Z.xc, .inr ⟨_, rfl, rfl⟩, Z.kx, ?_⟩
  refine ⟨(by show (3 : Nat) ≤ sizeLine; decide), fun l2 nl2 => ?_⟩
  have hx2 : (upd H2 l2 (.lst [.bl (decide (k = 3)), .bl (decide (k = 4)), .bl false])) x = some (xO x C) := by rw [upd_ne (ne_of_none hx1 nl2)]; exact hx1
  have hl2 : (upd H2 l2 (.lst [.bl (decide (k = 3)), .bl (decide (k = 4)), .bl false])) l = some (.lst [.bl (decide (k = 0)), .bl (decide (k = 1)), .bl (decide (k = 2))]) := by rw [upd_ne (ne_of_none hl1 nl2)]; exact hl1
  have hm2 : (upd H2 l2 (.lst [.bl (decide (k = 3)), .bl (decide (k = 4)), .bl false])) l2 = some (.lst [.bl (decide (k = 3)), .bl (decide (k = 4)), .bl false]) := upd_same
  have s3 := s2.next (o := .lst [.bl (decide (k = 3)), .bl (decide (k = 4)), .bl false]) nl2
  generalize upd H2 l2 (.lst [.bl (decide (k = 3)), .bl (decide (k = 4)), .bl false]) = H3 at s3 hx2 hl2 hm2
  refine ⟨l, l2, [.bl (decide (k = 0)), .bl (decide (k = 1)), .bl (decide (k = 2))], [.bl (decide (k = 3)), .bl (decide (k = 4)), .bl false], rfl, rfl, hl2, hm2, (by show (6 : Nat) ≤ sizeLine; decide), fun l3 nl3 => ?_⟩
  have hx3 : (upd H3 l3 (.lst ([.bl (decide (k = 0)), .bl (decide (k = 1)), .bl (decide (k = 2))] ++ [.bl (decide (k = 3)), .bl (decide (k = 4)), .bl false]))) x = some (xO x C) := by rw [upd_ne (ne_of_none hx2 nl3)]; exact hx2
  have hl3 : (upd H3 l3 (.lst ([.bl (decide (k = 0)), .bl (decide (k = 1)), .bl (decide (k = 2))] ++ [.bl (decide (k = 3)), .bl (decide (k = 4)), .bl false]))) l3 = some (.lst ([.bl (decide (k = 0)), .bl (decide (k = 1)), .bl (decide (k = 2))] ++ [.bl (decide (k = 3)), .bl (decide (k = 4)), .bl false])) := upd_same
  have s4 := s3.next (o := .lst ([.bl (decide (k = 0)), .bl (decide (k = 1)), .bl (decide (k = 2))] ++ [.bl (decide (k = 3)), .bl (decide (k = 4)), .bl false])) nl3
  refine g_name ?_
  generalize upd H3 l3 (.lst ([.bl (decide (k = 0)), .bl (decide (k = 1)), .bl (decide (k = 2))] ++ [.bl (decide (k = 3)), .bl (decide (k = 4)), .bl false])) = H4 at s4 hx3 hl3
  refine ⟨_, rfl, ?_⟩
  refine ⟨_, rfl, x, C, _, _, _, rfl, hx3, Z.xc, .inl ⟨_, rfl, rfl⟩, Z.kv, ?_⟩
  refine ⟨(by show (1 : Nat) ≤ sizeLine; decide), fun l4 nl4 => ?_⟩
  have hl4 : (upd H4 l4 (.lst [.bl true])) l3 = some (.lst ([.bl (decide (k = 0)), .bl (decide (k = 1)), .bl (decide (k = 2))] ++ [.bl (decide (k = 3)), .bl (decide (k = 4)), .bl false])) := by rw [upd_ne (ne_of_none hl3 nl4)]; exact hl3
  have hm4 : (upd H4 l4 (.lst [.bl true])) l4 = some (.lst [.bl true]) := upd_same
  have s5 := s4.next (o := .lst [.bl true]) nl4
  generalize upd H4 l4 (.lst [.bl true]) = H5 at s5 hl4 hm4
  refine ⟨l3, l4, _, [.bl true], rfl, rfl, hl4, hm4, (by show (7 : Nat) ≤ sizeLine; decide), fun l5 nl5 => ?_⟩
  exact kk l5 _ (s5.free nl5) upd_same (s5.next nl5)
theorem due_is (k j : Nat) : decide (V.int (k : Int) = V.int (j : Int)) = decide (k = j) := by
  rw [Bool.eq_iff_iff, decide_eq_true_iff, decide_eq_true_iff]
  exact ⟨fun h => by have := V.int.inj h; omega, fun h => by rw [h]⟩
theorem due_eq (k : Nat) : [V.bl (decide (V.int (k : Int) = V.int 0)), V.bl (decide (V.int (k : Int) = V.int 1)), V.bl (decide (V.int (k : Int) = V.int 2)), V.bl (decide (V.int (k : Int) = V.int 3)), V.bl (decide (V.int (k : Int) = V.int 4)), V.bl false, V.bl true] = (dueB k).map V.bl := by
  show _ = [V.bl (decide (k = 0)), V.bl (decide (k = 1)), V.bl (decide (k = 2)), V.bl (decide (k = 3)), V.bl (decide (k = 4)), V.bl false, V.bl true]
  rw [← due_is k 0, ← due_is k 1, ← due_is k 2, ← due_is k 3, ← due_is k 4]
  rfl
theorem nq {α : Type} {x y : α} {d : Decidable (x = y)} (h : x = y) : V.bl (!(@decide (x = y) d)) = V.bl false := by rw [decide_eq_true h]; rfl
theorem yq {α : Type} {x y : α} {d : Decidable (x = y)} (h : x = y) : V.bl (@decide (x = y) d) = V.bl true := by rw [decide_eq_true h]
theorem nqL {a b : List Int} (h : a = b) : V.bl (if true = true then !decide (a = b) else decide (a = b)) = V.bl false := by rw [if_pos rfl, decide_eq_true h]; rfl
theorem yqL {a b : List Int} (h : a = b) : V.bl (if false = true then !decide (a = b) else decide (a = b)) = V.bl true := by rw [if_neg Bool.false_ne_true, decide_eq_true h]
theorem full0 : Pk.FullL ([] : List Nat).length [] := ⟨rfl, fun k hk => by rw [Nat.le_zero.mp hk]; exact Nat.zero_le _⟩
theorem done0 {t : Nat} (dn : Pk.Done [] t) : t = 1 := by
  have l := (Pk.bfs_ok t dn.go).len
  have f := dn.fin
  cases t with
  | zero => exact absurd f (by decide)
  | succ t =>
    have l : (Pk.bfs [] (t + 1)).length ≤ 0 + 1 := l
    omega
theorem stn0 : Pk.Stn ([] : List Nat).length [] := ⟨rfl, by decide, fun c hc => nomatch hc⟩
structure IsP (K : PySem.W.Frag) (mg : Str → Option Value) (CP : Addr) : Prop where
  tp : ∀ {H : Hp} {a dx : Addr} {fs : List (Str × V)}, H a = some (.ins CP dx fs) → TyOf K H (.ref a) (.ref CP)
  pp : PySem.W.kitOne K (.ref CP) (.ref CP) = some true
def spLaw (pt : Addr) (K : PySem.W.Frag) : Sp := fun vs H Q _ => ∃ (a : Addr) (ns : List Int), vs = [.ref a] ∧ SqL K H a (ns.map V.int) ∧ ns.length ≤ 63 ∧ H pt = some (.tbl #[]) ∧ ∀ H', Q (.bl true) H'
theorem scLaw : FnScope ["_law_script", "_law_cell", "_law_kind", "_law_due"] ["_law_script"] (defScope sLaw) := ⟨rfl, rfl, rfl, by decide +kernel, rfl, by decide +kernel, by decide +kernel⟩
set_option maxHeartbeats 16000000 in
theorem ok_law {KP KC CM CT CP CD pt f : Addr} {fd : FuncData} (F : Fun K "law" "law" sLaw f fd) (B : Bt K mg) (T : Ans K mg KP KC) (J : IsP K mg KP) (D0 : Def P w K mg base 8 "_law_told" ["_law_kind", "_law_which", "_law_more"] spTold)
    (D1 : DefX P w K mg base 6 "drives" ["wishes"] (spDrives CM)) (D2 : DefX P w K mg base 6 "tree" ["wishes"] (spTree CM pt)) (D3 : DefX P w K mg base 6 "path" ["wishes"] (spPath CM)) (D4 : DefX P w K mg base 4 "wishes_of" ["parents"] (spWishesOf K CT))
    (D5 : Def P w K mg base 5 "turning" ["wishes"] spTurning) (D6 : Def P w K mg base 4 "parked" ["places", "wishes"] (spParked KP KC)) (D7 : Def P w K mg base 4 "taken" ["places", "wishes"] spTaken) (D8 : Def P w K mg base 6 "how_many" ["standing"] spHowMany)
    (D9 : Def P w K mg base 5 "reaches" ["standing"] spReaches) (D10 : DefX P w K mg base 6 "from_steps" ["standing", "steps"] (spFromSteps K CD)) (D11 : DefX P w K mg base 2 "rising" ["text"] (spRising K CP)) (D12 : DefX P w K mg base 2 "beneath" ["text"] (spBeneath K CP))
    (D13 : DefX P w K mg base 4 "ring" ["places", "wishes"] (spRing CM)) (D14 : Def P w K mg base 5 "turned" ["wishes", "by"] spTurned) : FnOk P w K mg base CX0 9 f fd ["_law_script"] (spLaw pt K) := by
  refine F.ok scLaw (fun vs H Q E h => ?_) (fun cdv A outer s H vs Q E hr h => ?_)
  · obtain ⟨a, ns, rfl, _⟩ := h
    rfl
  obtain ⟨a, ns, rfl, ha, hlen, tb, k⟩ := h
  have hu : (A.deeper (PyProof.Rows.envOfC "law" (defScope sLaw) s.heap.objs.size f cdv)).units < cLine := hr.units0
  have hr2 := hr.mono (show 2 ≤ 8 by decide)
  have hr4 := hr.mono (show 4 ≤ 8 by decide)
  have hr5 := hr.mono (show 5 ≤ 8 by decide)
  have hr6 := hr.mono (show 6 ≤ 8 by decide)
  refine ⟨_, gSs (qCons ⟨ps_for PassesOwn.never rfl (pi_list (pv 0)) (pg_name (i := 1) scLaw.nd rfl (Or.inl rfl))
      (gSs (qCons (qSet (i := 2) scLaw.nd rfl (Or.inl rfl) ⟨pe_op op_mod (pv 1) pe_int⟩ rfl (.inl rfl))
        (qCons (qSet (i := 3) scLaw.nd rfl (Or.inl rfl) (qL (qaR ⟨pe_cmpR op_eq (pv 2) pe_int (nomark _)⟩ (qaR ⟨pe_cmpR op_eq (pv 2) pe_int (nomark _)⟩ (qaR ⟨pe_cmpR op_eq (pv 2) pe_int (nomark _)⟩ (qaR ⟨pe_cmpR op_eq (pv 2) pe_int (nomark _)⟩ (qaR ⟨pe_cmpR op_eq (pv 2) pe_int (nomark _)⟩ (qaC qY (qaC qY q0)))))))) rfl (.inl rfl))
        (qOne (qIf (pt_cmpR (op_neB hu) (pe_callD D0 hr (by rfl) (pa_cons (pv 2) (pa_cons (pe_op op_mod (pe_op op_fdiv (pv 1) pe_int) pe_int) (pa_cons (pe_op op_mod (pe_op op_fdiv (pv 1) pe_int) pe_int) pa_nil)))) (pv 3) (nomark _)) (qOne (qRet qY)) qNil)))))⟩
    (qCons (qIf (pw_or (pt_cmpR op_ne (pe_callX D1 hr6 (by rfl) pass1E (pa_cons (pe_lst pa_nil) pa_nil)) pe_int (nomark _)) (pw_or (pt_cmpR (op_neL hu) (pe_callX D2 hr6 (by rfl) pass1E (pa_cons (pe_lst pa_nil) pa_nil)) (pe_lst pa_nil) (nomark _))
        (pw_or (pt_cmpR op_ne (pe_callX D3 hr6 (by rfl) pass1E (pa_cons (pe_lst pa_nil) pa_nil)) pe_str (nomark _)) (pw_or (pt_cmpR (op_neL hu) (pe_callX D4 hr4 (by rfl) pass1E (pa_cons (pe_lst pa_nil) pa_nil)) (pe_lst pa_nil) (nomark _))
        (pw_or1 (pt_cmpR op_ne (pe_callD D5 hr5 (by rfl) (pa_cons (pe_lst pa_nil) pa_nil)) pe_int (nomark _))))))).pt (qOne (qRet qY)) qNil)
    (qCons (qIf (pw_or (pt_not (pt_val (pe_callB call_isi (by rfl) B.isi b_isi (pa_cons (pe_callD D6 hr4 (by rfl) (pa_cons pe_int (pa_cons (pe_lst pa_nil) pa_nil))) (pa_cons (pe_glob (v := .ref KP) (by rfl) T.mp rfl) pa_nil)))))
        (pw_or (pt_cmpR (op_neL hu) (pe_callD D7 hr4 (by rfl) (pa_cons pe_int (pa_cons (pe_lst (pa_cons pe_int (pa_cons pe_int pa_nil))) pa_nil))) (pe_lst (pa_cons pe_int pa_nil)) (nomark _))
        (pw_or1 (pt_cmpR op_ne (pe_callD D8 hr6 (by rfl) (pa_cons (pe_lst pa_nil) pa_nil)) pe_int (nomark _))))).pt (qOne (qRet qY)) qNil)
    (qCons (qIf (pw_or (pt_cmpR (op_neL hu) (pe_callD D9 hr5 (by rfl) (pa_cons (pe_lst pa_nil) pa_nil)) (pe_lst pa_nil) (nomark _)) (pw_or1 (pt_cmpR (op_neL hu) (pe_callX D10 hr6 (by rfl) pass1E (pa_cons (pe_lst pa_nil) (pa_cons (pe_lst pa_nil) pa_nil))) (pe_lst pa_nil) (nomark _)))).pt (qOne (qRet qY)) qNil)
    (qOne (qRet ⟨pe_and (pe_cmpR (op_eqL hu) (pe_callX D11 hr2 (by rfl) pass1E (pa_cons pe_str pa_nil)) (pe_lst pa_nil) (nomark _)) (pe_and (pe_cmpR op_eq (pe_callX D12 hr2 (by rfl) pass1E (pa_cons pe_str pa_nil)) pe_int (nomark _))
        (pe_and (pe_cmpR (op_eqL hu) (pe_callX D13 hr4 (by rfl) pass1E (pa_cons pe_int (pa_cons (pe_lst (pa_cons pe_int pa_nil)) pa_nil))) (pe_lst (pa_cons pe_int pa_nil)) (nomark _))
        (pe_one (pe_cmpR (op_eqL hu) (pe_callD D14 hr5 (by rfl) (pa_cons (pe_lst pa_nil) (pa_cons pe_int pa_nil))) (pe_lst pa_nil) (nomark _)))))⟩)))))), ?_⟩
  refine ⟨_, rfl, a, rfl, ⟨_, ha⟩, for_list (K := K) (a := a) (xs := ns.map V.int) (fun i σ H2 => ∃ (v1 v2 v3 : Option V), σ = [some (.ref a), v1, v2, v3] ∧ Same H H2) ⟨none, none, none, rfl, Same.refl _⟩ (fun i σ H2 _ ⟨_, _, _, _, sm⟩ => sm.seq ha) ?_ ?_⟩
  · rintro i x σ H2 hx ⟨v1, v2, v3, rfl, sm⟩
    obtain ⟨c, rfl⟩ : ∃ c, x = .int c := by
      rw [List.getElem?_map] at hx
      cases e : ns[i]? with
      | none => rw [e] at hx; cases hx
      | some c => rw [e] at hx; cases hx; exact ⟨c, rfl⟩
    refine ⟨_, rfl, _, _, rfl, rfl, (by show (0 : Int) < 5; decide), ?_⟩
    obtain ⟨k1, ek, hk⟩ : ∃ k1 : Nat, c % 5 = (k1 : Int) ∧ k1 < 5 := ⟨(c % 5).toNat, by omega, by omega⟩
    obtain ⟨n1, en⟩ : ∃ n1 : Nat, c / 5 % 100000 = (n1 : Int) := ⟨(c / 5 % 100000).toNat, by omega⟩
    obtain ⟨m1, em, hm⟩ : ∃ m1 : Nat, c / 500000 % 1000 = (m1 : Int) ∧ m1 < 1000 := ⟨(c / 500000 % 1000).toNat, by omega, by omega⟩
    show gName 2 (V.int (c % 5)) _ _ _
    rw [ek]
    refine g_name ?_
    refine ⟨_, rfl, rfl, _, rfl, rfl, _, rfl, rfl, _, rfl, rfl, _, rfl, rfl, (by show (7 : Nat) ≤ sizeLine; decide), fun l nl => ?_⟩
    rw [due_eq]
    have s1 := sm.next (o := .lst ((dueB k1).map V.bl)) nl
    have hl : (upd H2 l (.lst ((dueB k1).map V.bl))) l = some (.lst ((dueB k1).map V.bl)) := upd_same
    refine g_name ?_
    generalize upd H2 l (.lst ((dueB k1).map V.bl)) = H3 at s1 hl
    refine ⟨_, rfl, _, rfl, _, _, rfl, rfl, ⟨by decide, by decide⟩, _, _, rfl, rfl, (by show (0 : Int) < 100000; decide), _, rfl, _, _, rfl, rfl, ⟨by decide, by decide⟩, _, _, rfl, rfl, (by show (0 : Int) < 1000; decide), k1, n1, m1, ?_, hk, hm, fun l2 H4 nl2 hl2 s2 => ?_⟩
    · show [V.int (k1 : Int), V.int (c / 5 % 100000), V.int (c / 500000 % 1000)] ++ [] = _
      rw [en, em]
      rfl
    · refine ⟨_, rfl, l2, l, dueB k1, dueB k1, rfl, rfl, SqL.of hl2, SqL.of (s2 _ _ hl), rfl, false, nq rfl, iteF ?_⟩
      exact ⟨_, _, _, rfl, s1.trans s2⟩
  rintro σ H1 ⟨v1, v2, v3, rfl, sm1⟩
  have tb1 : Tab H1 pt lamPos lamQ := (show Tab H pt lamPos lamQ from .inl tb).same sm1
  refine ⟨by decide, fun e1 n1 => ?_⟩
  refine ⟨e1, [], rfl, upd_same, by decide, (fun w hw => nomatch hw), fun _ H2 s2 => ?_, fun z => absurd full0 z⟩
  refine ⟨rfl, false, nq rfl, iteF ?_⟩
  have tb2 : Tab H2 pt lamPos lamQ := (tb1.same (Same.new n1)).same s2
  refine ⟨by decide, fun e2 n2 => ?_⟩
  refine ⟨e2, [], rfl, upd_same, by decide, (fun w hw => nomatch hw), tb2.same (Same.new n2), fun _ l2 H3 nl2 hl2 s3 tb3 => ?_, fun z => absurd full0 z⟩
  refine ⟨by decide, fun e3 n3 => ?_⟩
  refine ⟨l2, e3, [], [], rfl, rfl, SqL.of ((Same.new n3) _ _ hl2), SqL.of upd_same, false, nqL rfl, iteF ?_⟩
  clear hl2 nl2 s3 tb3 tb2 s2 tb1 tb sm1 ha
  generalize upd H3 e3 (.lst []) = H4
  refine ⟨by decide, fun e4 n4 => ?_⟩
  refine ⟨e4, [], rfl, upd_same, by decide, (fun w hw => nomatch hw), fun _ H5 s5 => ?_, fun z => absurd full0 z⟩
  refine ⟨rfl, false, nq (by rw [s_e]; rfl), iteF ?_⟩
  refine ⟨by decide, fun e5 n5 => ?_⟩
  have he5 : (upd H5 e5 (.lst [])) e5 = some (.lst (vI [])) := upd_same
  refine ⟨.ref e5, rfl, .lst he5, fun a' xs e1 e2 => ?_, fun no => absurd he5 (no _ _ rfl)⟩
  cases e1
  rw [he5] at e2
  cases e2
  refine ⟨(fun x hx => nomatch hx), by decide, fun z => absurd z (by decide), fun ps e _ t dn => ?_⟩
  obtain rfl := vI_inj (a := []) e
  have et := done0 dn
  refine ⟨fun z => by rw [et] at z; exact absurd z (by decide), fun _ l6 H6 nl6 hl6 s6 => ?_⟩
  refine ⟨by decide, fun e6 n6 => ?_⟩
  refine ⟨l6, e6, [], [], rfl, rfl, SqL.of ((Same.new n6) _ _ hl6), SqL.of upd_same, false, nqL rfl, iteF ?_⟩
  generalize upd H6 e6 (.lst []) = H7
  refine ⟨by decide, fun e7 n7 => ?_⟩
  refine ⟨e7, [], rfl, upd_same, by decide, (fun w hw => nomatch hw), fun t H8 ht _ s8 => ?_⟩
  have t0 : t = 0 := by
    have ht : t < 0 + 1 := ht
    omega
  subst t0
  refine ⟨rfl, false, nq rfl, iteF ?_⟩
  refine ⟨by decide, fun e8 n8 => ?_⟩
  refine ⟨1, e8, [], rfl, upd_same, (fun w hw => nomatch hw), by decide, by decide, by decide, fun x H9 nx s9 ans => ?_⟩
  rcases ans.symm with ⟨_, _, _, z, _⟩ | ⟨dx, l9, _, _, h9, _, _⟩
  · cases z
  refine ⟨_, _, _, _, _, rfl, J.tp h9, .inr ⟨_, rfl, rfl⟩, J.pp, _, rfl, iteF ?_⟩
  refine ⟨by decide, fun e10 n10 => ?_⟩
  refine ⟨1, e10, [0, 0], rfl, upd_same, by decide, by decide, by decide, by decide, fun ts l10 H10 pm _ nl10 hl10 s10 => ?_⟩
  have ts0 : ts = [0] := List.perm_singleton.mp (by have e : Pk.tk 1 [0, 0] = [0] := by decide
                                                    rw [← e]; exact pm)
  subst ts0
  refine ⟨by decide, fun e11 n11 => ?_⟩
  refine ⟨l10, e11, [0], [0], rfl, rfl, SqL.of ((Same.new n11) _ _ hl10), SqL.of upd_same, false, nqL rfl, iteF ?_⟩
  generalize upd H10 e11 (.lst [.int 0]) = H11
  refine ⟨by decide, fun e12 n12 => ?_⟩
  refine ⟨e12, [], rfl, upd_same, by decide, stn0, fun H12 s12 => ?_⟩
  refine ⟨rfl, false, nq rfl, iteF ?_⟩
  refine ⟨by decide, fun e13 n13 => ?_⟩
  refine ⟨e13, [], rfl, upd_same, by decide, stn0, fun l13 H13 nl13 hl13 s13 => ?_⟩
  refine ⟨by decide, fun e14 n14 => ?_⟩
  refine ⟨l13, e14, [], [], rfl, rfl, SqL.of ((Same.new n14) _ _ hl13), SqL.of upd_same, false, nqL rfl, iteF ?_⟩
  generalize upd H13 e14 (.lst []) = H14
  refine ⟨by decide, fun e15 n15 => ?_⟩
  refine ⟨by decide, fun e16 n16 => ?_⟩
  have he15 : (upd H14 e15 (.lst [])) e15 = some (.lst (vI [])) := upd_same
  refine ⟨e15, e16, [], [], rfl, (Same.new n16) _ _ he15, by decide, stn0, upd_same, by decide, fun ss es _ _ l16 H16 nl16 hl16 s16 => ?_, fun z => ?_, .inl ⟨[], rfl, rfl, fun i hi => absurd hi (Nat.not_lt_zero _)⟩⟩
  · refine ⟨by decide, fun e17 n17 => ?_⟩
    refine ⟨l16, e17, [], [], rfl, rfl, SqL.of ((Same.new n17) _ _ hl16), SqL.of upd_same, false, nqL rfl, iteF ?_⟩
    generalize upd H16 e17 (.lst []) = H17
    refine ⟨.str "", rfl, .str _, fun t e => ?_, fun no => absurd rfl (no _)⟩
    have t0 : t = [] := tx_inj (by rw [← V.str.inj e, s_e])
    subst t0
    refine ⟨by decide, fun _ l18 H18 nl18 hl18 s18 => ?_, fun z => absurd z (by decide)⟩
    refine ⟨by decide, fun e18 n18 => ?_⟩
    refine ⟨l18, e18, [], [], rfl, rfl, SqL.of ((Same.new n18) _ _ hl18), SqL.of upd_same, true, yqL rfl, iteT ?_⟩
    generalize upd H18 e18 (.lst []) = H19
    refine ⟨.str "", rfl, .str _, fun t e => ?_, fun no => absurd rfl (no _)⟩
    have t0 : t = [] := tx_inj (by rw [← V.str.inj e, s_e])
    subst t0
    refine ⟨by decide, fun _ H20 s20 => ?_, fun z => absurd z (by decide)⟩
    refine ⟨rfl, true, yq rfl, iteT ?_⟩
    refine ⟨by decide, fun e21 n21 => ?_⟩
    refine ⟨1, e21, [0], rfl, upd_same, by decide, by decide, by decide, by decide, fun _ l21 H21 nl21 hl21 s21 => ?_, fun z => absurd z (by decide)⟩
    have er : Pk.rwh 1 [0] = [0] := by decide
    rw [er] at hl21
    refine ⟨by decide, fun e22 n22 => ?_⟩
    refine ⟨l21, e22, [0], [0], rfl, rfl, SqL.of ((Same.new n22) _ _ hl21), SqL.of upd_same, true, yqL rfl, iteT ?_⟩
    generalize upd H21 e22 (.lst [.int 0]) = H22
    refine ⟨by decide, fun e23 n23 => ?_⟩
    refine ⟨e23, 5, [], rfl, upd_same, by decide, (fun w hw => nomatch hw), fun l23 H23 nl23 hl23 s23 => ?_⟩
    refine ⟨by decide, fun e24 n24 => ?_⟩
    refine ⟨l23, e24, [], [], rfl, rfl, SqL.of ((Same.new n24) _ _ hl23), SqL.of upd_same, ?_⟩
    exact k _
  · obtain ⟨_, i, x, z, _⟩ := z
    cases z
end
theorem kit_ref {K : PySem.W.Frag} {t : Value} {C : Addr} {b : Bool} (h1 : PySem.W.isClsIn K C = true) (h2 : PySem.W.typeIn K (.ref C) = some (.type "type")) (h3 : PySem.W.subIn K t (.ref C) = some b) (h4 : b = true ∨ (t == Value.ref C) = false) : PySem.W.kitOne K t (.ref C) = some b := by
  have e : PySem.W.kitCls K t (.ref C) = some b := by
    show (if ((PySem.W.clsIn K C).isSome && PySem.W.typeIn K (.ref C) == some (.type "type")) = true then PySem.W.subIn K t (.ref C) else none) = some b
    have h1 : (PySem.W.clsIn K C).isSome = true := h1
    rw [h1, h2]
    rw [if_pos (by simp)]
    exact h3
  unfold PySem.W.kitOne
  rcases h4 with z | z
  · by_cases c : (t == Value.ref C) = true
    · rw [if_pos c, z]
    · rw [if_neg c, e]
  · rw [if_neg (by rw [z]; exact Bool.false_ne_true), e]
theorem kit_ty {K : PySem.W.Frag} {t : Value} {n : String} {b : Bool} (h1 : PySem.W.kitMeta n = true) (h3 : PySem.W.subIn K t (.type n) = some b) (h4 : (t == Value.type n) = false) : PySem.W.kitOne K t (.type n) = some b := by
  unfold PySem.W.kitOne
  rw [if_neg (by rw [h4]; exact Bool.false_ne_true)]
  show (if PySem.W.kitMeta n = true then PySem.W.subIn K t (.type n) else none) = some b
  rw [if_pos h1]
  exact h3
theorem kit_own {K : PySem.W.Frag} {C : Addr} : PySem.W.kitOne K (.ref C) (.ref C) = some true := by
  unfold PySem.W.kitOne
  rw [if_pos (by simp)]
theorem exm_mk {K : PySem.W.Frag} {t : Value} {C : Addr} (h0 : PySem.W.subIn K (.ref C) (.type "BaseException") = some true) (h1 : PySem.W.isClsIn K C = true) (h2 : PySem.W.typeIn K (.ref C) = some (.type "type")) (h3 : PySem.W.subIn K t (.ref C) = some true) : PySem.W.exmOne K t (.ref C) = some true := by
  have h1 : (PySem.W.clsIn K C).isSome = true := h1
  unfold PySem.W.exmOne
  rw [h0, if_pos (by simp)]
  show (if ((PySem.W.clsIn K C).isSome && PySem.W.typeIn K (.ref C) == some (.type "type")) = true then PySem.W.subIn K t (.ref C) else none) = some true
  rw [h1, h2, if_pos (by simp)]
  exact h3
set_option maxHeartbeats 16000000 in
theorem all_mk {P : Program} {w : World} {K : PySem.W.Frag} {h : Heap} {mg : Str → Option Value} {fa : Addr} (X : K.In h) (G : h.Ns mainGlobals mg) (hfa : mg "law" = some (.ref fa))
    {fd0 : Addr} {odd0 and0 : Option Addr} {sld0 : Array (Option Value)} {ocd0 kVd0 dcd0 pmd0 cdd0 ctd0 : Value} {fd1 : Addr} {odd1 and1 : Option Addr} {sld1 : Array (Option Value)} {ocd1 kVd1 dcd1 pmd1 cdd1 ctd1 : Value} {fd2 : Addr} {odd2 and2 : Option Addr} {sld2 : Array (Option Value)} {ocd2 kVd2 dcd2 pmd2 cdd2 ctd2 : Value} {fd3 : Addr} {odd3 and3 : Option Addr} {sld3 : Array (Option Value)} {ocd3 kVd3 dcd3 pmd3 cdd3 ctd3 : Value} {fd4 : Addr} {odd4 and4 : Option Addr} {sld4 : Array (Option Value)} {ocd4 kVd4 dcd4 pmd4 cdd4 ctd4 : Value} {fd5 : Addr} {odd5 and5 : Option Addr} {sld5 : Array (Option Value)} {ocd5 kVd5 dcd5 pmd5 cdd5 ctd5 : Value} {fd6 : Addr} {odd6 and6 : Option Addr} {sld6 : Array (Option Value)} {ocd6 kVd6 dcd6 pmd6 cdd6 ctd6 : Value} {fd7 : Addr} {odd7 and7 : Option Addr} {sld7 : Array (Option Value)} {ocd7 kVd7 dcd7 pmd7 cdd7 ctd7 : Value} {fd8 : Addr} {odd8 and8 : Option Addr} {sld8 : Array (Option Value)} {ocd8 kVd8 dcd8 pmd8 cdd8 ctd8 : Value} {fd9 : Addr} {odd9 and9 : Option Addr} {sld9 : Array (Option Value)} {ocd9 kVd9 dcd9 pmd9 cdd9 ctd9 : Value} {fd10 : Addr} {odd10 and10 : Option Addr} {sld10 : Array (Option Value)} {ocd10 kVd10 dcd10 pmd10 cdd10 ctd10 : Value} {fd11 : Addr} {odd11 and11 : Option Addr} {sld11 : Array (Option Value)} {ocd11 kVd11 dcd11 pmd11 cdd11 ctd11 : Value} {fd12 : Addr} {odd12 and12 : Option Addr} {sld12 : Array (Option Value)} {ocd12 kVd12 dcd12 pmd12 cdd12 ctd12 : Value} {fd13 : Addr} {odd13 and13 : Option Addr} {sld13 : Array (Option Value)} {ocd13 kVd13 dcd13 pmd13 cdd13 ctd13 : Value} {fd14 : Addr} {odd14 and14 : Option Addr} {sld14 : Array (Option Value)} {ocd14 kVd14 dcd14 pmd14 cdd14 ctd14 : Value} {fd15 : Addr} {odd15 and15 : Option Addr} {sld15 : Array (Option Value)} {ocd15 kVd15 dcd15 pmd15 cdd15 ctd15 : Value} {fd16 : Addr} {odd16 and16 : Option Addr} {sld16 : Array (Option Value)} {ocd16 kVd16 dcd16 pmd16 cdd16 ctd16 : Value} {fd17 : Addr} {odd17 and17 : Option Addr} {sld17 : Array (Option Value)} {ocd17 kVd17 dcd17 pmd17 cdd17 ctd17 : Value} {fd18 : Addr} {odd18 and18 : Option Addr} {sld18 : Array (Option Value)} {ocd18 kVd18 dcd18 pmd18 cdd18 ctd18 : Value} {fd19 : Addr} {odd19 and19 : Option Addr} {sld19 : Array (Option Value)} {ocd19 kVd19 dcd19 pmd19 cdd19 ctd19 : Value} {fd20 : Addr} {odd20 and20 : Option Addr} {sld20 : Array (Option Value)} {ocd20 kVd20 dcd20 pmd20 cdd20 ctd20 : Value} {fd21 : Addr} {odd21 and21 : Option Addr} {sld21 : Array (Option Value)} {ocd21 kVd21 dcd21 pmd21 cdd21 ctd21 : Value} {fd22 : Addr} {odd22 and22 : Option Addr} {sld22 : Array (Option Value)} {ocd22 kVd22 dcd22 pmd22 cdd22 ctd22 : Value} {fd23 : Addr} {odd23 and23 : Option Addr} {sld23 : Array (Option Value)} {ocd23 kVd23 dcd23 pmd23 cdd23 ctd23 : Value} {fd24 : Addr} {odd24 and24 : Option Addr} {sld24 : Array (Option Value)} {ocd24 kVd24 dcd24 pmd24 cdd24 ctd24 : Value} {fd25 : Addr} {odd25 and25 : Option Addr} {sld25 : Array (Option Value)} {ocd25 kVd25 dcd25 pmd25 cdd25 ctd25 : Value} {fd26 : Addr} {odd26 and26 : Option Addr} {sld26 : Array (Option Value)} {ocd26 kVd26 dcd26 pmd26 cdd26 ctd26 : Value} {fd27 : Addr} {odd27 and27 : Option Addr} {sld27 : Array (Option Value)} {ocd27 kVd27 dcd27 pmd27 cdd27 ctd27 : Value} {fd28 : Addr} {odd28 and28 : Option Addr} {sld28 : Array (Option Value)} {ocd28 kVd28 dcd28 pmd28 cdd28 ctd28 : Value} {fd29 : Addr} {odd29 and29 : Option Addr} {sld29 : Array (Option Value)} {ocd29 kVd29 dcd29 pmd29 cdd29 ctd29 : Value} {fd30 ccd30 : Addr} {odd30 and30 : Option Addr} {sld30 : Array (Option Value)} {ocd30 kVd30 dcd30 pmd30 ctd30 : Value} {fd31 : Addr} {odd31 and31 : Option Addr} {sld31 : Array (Option Value)} {ocd31 kVd31 dcd31 pmd31 cdd31 ctd31 : Value} {fd32 : Addr} {odd32 and32 : Option Addr} {sld32 : Array (Option Value)} {ocd32 kVd32 dcd32 pmd32 cdd32 ctd32 : Value} {fd33 : Addr} {odd33 and33 : Option Addr} {sld33 : Array (Option Value)} {ocd33 kVd33 dcd33 pmd33 cdd33 ctd33 : Value} {fd34 : Addr} {odd34 and34 : Option Addr} {sld34 : Array (Option Value)} {ocd34 kVd34 dcd34 pmd34 cdd34 ctd34 : Value} {fd35 : Addr} {odd35 and35 : Option Addr} {sld35 : Array (Option Value)} {ocd35 kVd35 dcd35 pmd35 cdd35 ctd35 : Value} {fd36 : Addr} {odd36 and36 : Option Addr} {sld36 : Array (Option Value)} {ocd36 kVd36 dcd36 pmd36 cdd36 ctd36 : Value} {fd37 : Addr} {odd37 and37 : Option Addr} {sld37 : Array (Option Value)} {ocd37 kVd37 dcd37 pmd37 cdd37 ctd37 : Value} {fd38 : Addr} {odd38 and38 : Option Addr} {sld38 : Array (Option Value)} {ocd38 kVd38 dcd38 pmd38 cdd38 ctd38 : Value} {fd39 : Addr} {odd39 and39 : Option Addr} {sld39 : Array (Option Value)} {ocd39 kVd39 dcd39 pmd39 cdd39 ctd39 : Value} {fd40 : Addr} {odd40 and40 : Option Addr} {sld40 : Array (Option Value)} {ocd40 kVd40 dcd40 pmd40 cdd40 ctd40 : Value} {KA : Addr} {KP : Addr} {fKP : Addr} {odKP anKP : Option Addr} {slKP : Array (Option Value)} {ocKP kVKP dcKP pmKP cdKP ctKP : Value} {KC : Addr} {fKC : Addr} {odKC anKC : Option Addr} {slKC : Array (Option Value)} {ocKC kVKC dcKC pmKC cdKC ctKC : Value} {CS : Addr} {CW : Addr} {CM : Addr} {CT : Addr} {CP : Addr} {CD : Addr} {CX : Addr} {tk_MOST_PLACES : Tok}
    (ad0 : PySem.W.nsIn K mainGlobals "is_number" = some (some (.ref fd0)))
    (ld0 : K.lookup fd0 = some ⟨ocd0, odd0, .func (PySem.W.fnOf "is_number" "is_number" (defArgs sIsNum) (defBody sIsNum) (defScope sIsNum) .none kVd0 dcd0 pmd0 and0 cdd0 ctd0), sld0⟩)
    (cd0 : PySem.W.codeIn K cdd0 "is_number" = true)
    (kd0 : PySem.W.keepIn K (.ref fd0) = true)
    (ad1 : PySem.W.nsIn K mainGlobals "is_each_below" = some (some (.ref fd1)))
    (ld1 : K.lookup fd1 = some ⟨ocd1, odd1, .func (PySem.W.fnOf "is_each_below" "is_each_below" (defArgs sEachB) (defBody sEachB) (defScope sEachB) .none kVd1 dcd1 pmd1 and1 cdd1 ctd1), sld1⟩)
    (cd1 : PySem.W.codeIn K cdd1 "is_each_below" = true)
    (kd1 : PySem.W.keepIn K (.ref fd1) = true)
    (ad2 : PySem.W.nsIn K mainGlobals "is_list_below_its_length" = some (some (.ref fd2)))
    (ld2 : K.lookup fd2 = some ⟨ocd2, odd2, .func (PySem.W.fnOf "is_list_below_its_length" "is_list_below_its_length" (defArgs sListB) (defBody sListB) (defScope sListB) .none kVd2 dcd2 pmd2 and2 cdd2 ctd2), sld2⟩)
    (cd2 : PySem.W.codeIn K cdd2 "is_list_below_its_length" = true)
    (kd2 : PySem.W.keepIn K (.ref fd2) = true)
    (ad3 : PySem.W.nsIn K mainGlobals "is_street" = some (some (.ref fd3)))
    (ld3 : K.lookup fd3 = some ⟨ocd3, odd3, .func (PySem.W.fnOf "is_street" "is_street" (defArgs sIsStreet) (defBody sIsStreet) (defScope sIsStreet) .none kVd3 dcd3 pmd3 and3 cdd3 ctd3), sld3⟩)
    (cd3 : PySem.W.codeIn K cdd3 "is_street" = true)
    (kd3 : PySem.W.keepIn K (.ref fd3) = true)
    (ad4 : PySem.W.nsIn K mainGlobals "check_street" = some (some (.ref fd4)))
    (ld4 : K.lookup fd4 = some ⟨ocd4, odd4, .func (PySem.W.fnOf "check_street" "check_street" (defArgs sChkStreet) (defBody sChkStreet) (defScope sChkStreet) .none kVd4 dcd4 pmd4 and4 cdd4 ctd4), sld4⟩)
    (cd4 : PySem.W.codeIn K cdd4 "check_street" = true)
    (kd4 : PySem.W.keepIn K (.ref fd4) = true)
    (ad5 : PySem.W.nsIn K mainGlobals "check_by_cars" = some (some (.ref fd5)))
    (ld5 : K.lookup fd5 = some ⟨ocd5, odd5, .func (PySem.W.fnOf "check_by_cars" "check_by_cars" (defArgs sByCars) (defBody sByCars) (defScope sByCars) .none kVd5 dcd5 pmd5 and5 cdd5 ctd5), sld5⟩)
    (cd5 : PySem.W.codeIn K cdd5 "check_by_cars" = true)
    (kd5 : PySem.W.keepIn K (.ref fd5) = true)
    (ad6 : PySem.W.nsIn K mainGlobals "crowd_place" = some (some (.ref fd6)))
    (ld6 : K.lookup fd6 = some ⟨ocd6, odd6, .func (PySem.W.fnOf "crowd_place" "crowd_place" (defArgs sCrowdPl) (defBody sCrowdPl) (defScope sCrowdPl) .none kVd6 dcd6 pmd6 and6 cdd6 ctd6), sld6⟩)
    (cd6 : PySem.W.codeIn K cdd6 "crowd_place" = true)
    (kd6 : PySem.W.keepIn K (.ref fd6) = true)
    (ad7 : PySem.W.nsIn K mainGlobals "check_full" = some (some (.ref fd7)))
    (ld7 : K.lookup fd7 = some ⟨ocd7, odd7, .func (PySem.W.fnOf "check_full" "check_full" (defArgs sChkFull) (defBody sChkFull) (defScope sChkFull) .none kVd7 dcd7 pmd7 and7 cdd7 ctd7), sld7⟩)
    (cd7 : PySem.W.codeIn K cdd7 "check_full" = true)
    (kd7 : PySem.W.keepIn K (.ref fd7) = true)
    (ad8 : PySem.W.nsIn K mainGlobals "first_free" = some (some (.ref fd8)))
    (ld8 : K.lookup fd8 = some ⟨ocd8, odd8, .func (PySem.W.fnOf "first_free" "first_free" (defArgs sFree) (defBody sFree) (defScope sFree) .none kVd8 dcd8 pmd8 and8 cdd8 ctd8), sld8⟩)
    (cd8 : PySem.W.codeIn K cdd8 "first_free" = true)
    (kd8 : PySem.W.keepIn K (.ref fd8) = true)
    (ad9 : PySem.W.nsIn K mainGlobals "stands" = some (some (.ref fd9)))
    (ld9 : K.lookup fd9 = some ⟨ocd9, odd9, .func (PySem.W.fnOf "stands" "stands" (defArgs sStands) (defBody sStands) (defScope sStands) .none kVd9 dcd9 pmd9 and9 cdd9 ctd9), sld9⟩)
    (cd9 : PySem.W.codeIn K cdd9 "stands" = true)
    (kd9 : PySem.W.keepIn K (.ref fd9) = true)
    (ad10 : PySem.W.nsIn K mainGlobals "parked" = some (some (.ref fd10)))
    (ld10 : K.lookup fd10 = some ⟨ocd10, odd10, .func (PySem.W.fnOf "parked" "parked" (defArgs sParked) (defBody sParked) (defScope sParked) .none kVd10 dcd10 pmd10 and10 cdd10 ctd10), sld10⟩)
    (cd10 : PySem.W.codeIn K cdd10 "parked" = true)
    (kd10 : PySem.W.keepIn K (.ref fd10) = true)
    (ad11 : PySem.W.nsIn K mainGlobals "taken" = some (some (.ref fd11)))
    (ld11 : K.lookup fd11 = some ⟨ocd11, odd11, .func (PySem.W.fnOf "taken" "taken" (defArgs sTaken) (defBody sTaken) (defScope sTaken) .none kVd11 dcd11 pmd11 and11 cdd11 ctd11), sld11⟩)
    (cd11 : PySem.W.codeIn K cdd11 "taken" = true)
    (kd11 : PySem.W.keepIn K (.ref fd11) = true)
    (ad12 : PySem.W.nsIn K mainGlobals "driven_off" = some (some (.ref fd12)))
    (ld12 : K.lookup fd12 = some ⟨ocd12, odd12, .func (PySem.W.fnOf "driven_off" "driven_off" (defArgs sOff) (defBody sOff) (defScope sOff) .none kVd12 dcd12 pmd12 and12 cdd12 ctd12), sld12⟩)
    (cd12 : PySem.W.codeIn K cdd12 "driven_off" = true)
    (kd12 : PySem.W.keepIn K (.ref fd12) = true)
    (ad13 : PySem.W.nsIn K mainGlobals "lucky" = some (some (.ref fd13)))
    (ld13 : K.lookup fd13 = some ⟨ocd13, odd13, .func (PySem.W.fnOf "lucky" "lucky" (defArgs sLucky) (defBody sLucky) (defScope sLucky) .none kVd13 dcd13 pmd13 and13 cdd13 ctd13), sld13⟩)
    (cd13 : PySem.W.codeIn K cdd13 "lucky" = true)
    (kd13 : PySem.W.keepIn K (.ref fd13) = true)
    (ad14 : PySem.W.nsIn K mainGlobals "drives" = some (some (.ref fd14)))
    (ld14 : K.lookup fd14 = some ⟨ocd14, odd14, .func (PySem.W.fnOf "drives" "drives" (defArgs sDrives) (defBody sDrives) (defScope sDrives) .none kVd14 dcd14 pmd14 and14 cdd14 ctd14), sld14⟩)
    (cd14 : PySem.W.codeIn K cdd14 "drives" = true)
    (kd14 : PySem.W.keepIn K (.ref fd14) = true)
    (ad15 : PySem.W.nsIn K mainGlobals "path" = some (some (.ref fd15)))
    (ld15 : K.lookup fd15 = some ⟨ocd15, odd15, .func (PySem.W.fnOf "path" "path" (defArgs sPath) (defBody sPath) (defScope sPath) .none kVd15 dcd15 pmd15 and15 cdd15 ctd15), sld15⟩)
    (cd15 : PySem.W.codeIn K cdd15 "path" = true)
    (kd15 : PySem.W.keepIn K (.ref fd15) = true)
    (ad16 : PySem.W.nsIn K mainGlobals "heights" = some (some (.ref fd16)))
    (ld16 : K.lookup fd16 = some ⟨ocd16, odd16, .func (PySem.W.fnOf "heights" "heights" (defArgs sHeights) (defBody sHeights) (defScope sHeights) .none kVd16 dcd16 pmd16 and16 cdd16 ctd16), sld16⟩)
    (cd16 : PySem.W.codeIn K cdd16 "heights" = true)
    (kd16 : PySem.W.keepIn K (.ref fd16) = true)
    (ad17 : PySem.W.nsIn K mainGlobals "beneath" = some (some (.ref fd17)))
    (ld17 : K.lookup fd17 = some ⟨ocd17, odd17, .func (PySem.W.fnOf "beneath" "beneath" (defArgs sBeneath) (defBody sBeneath) (defScope sBeneath) .none kVd17 dcd17 pmd17 and17 cdd17 ctd17), sld17⟩)
    (cd17 : PySem.W.codeIn K cdd17 "beneath" = true)
    (kd17 : PySem.W.keepIn K (.ref fd17) = true)
    (ad18 : PySem.W.nsIn K mainGlobals "rising" = some (some (.ref fd18)))
    (ld18 : K.lookup fd18 = some ⟨ocd18, odd18, .func (PySem.W.fnOf "rising" "rising" (defArgs sRising) (defBody sRising) (defScope sRising) .none kVd18 dcd18 pmd18 and18 cdd18 ctd18), sld18⟩)
    (cd18 : PySem.W.codeIn K cdd18 "rising" = true)
    (kd18 : PySem.W.keepIn K (.ref fd18) = true)
    (ad19 : PySem.W.nsIn K mainGlobals "stands_around" = some (some (.ref fd19)))
    (ld19 : K.lookup fd19 = some ⟨ocd19, odd19, .func (PySem.W.fnOf "stands_around" "stands_around" (defArgs sAround) (defBody sAround) (defScope sAround) .none kVd19 dcd19 pmd19 and19 cdd19 ctd19), sld19⟩)
    (cd19 : PySem.W.codeIn K cdd19 "stands_around" = true)
    (kd19 : PySem.W.keepIn K (.ref fd19) = true)
    (ad20 : PySem.W.nsIn K mainGlobals "ring" = some (some (.ref fd20)))
    (ld20 : K.lookup fd20 = some ⟨ocd20, odd20, .func (PySem.W.fnOf "ring" "ring" (defArgs sRing) (defBody sRing) (defScope sRing) .none kVd20 dcd20 pmd20 and20 cdd20 ctd20), sld20⟩)
    (cd20 : PySem.W.codeIn K cdd20 "ring" = true)
    (kd20 : PySem.W.keepIn K (.ref fd20) = true)
    (ad21 : PySem.W.nsIn K mainGlobals "turning" = some (some (.ref fd21)))
    (ld21 : K.lookup fd21 = some ⟨ocd21, odd21, .func (PySem.W.fnOf "turning" "turning" (defArgs sTurning) (defBody sTurning) (defScope sTurning) .none kVd21 dcd21 pmd21 and21 cdd21 ctd21), sld21⟩)
    (cd21 : PySem.W.codeIn K cdd21 "turning" = true)
    (kd21 : PySem.W.keepIn K (.ref fd21) = true)
    (ad22 : PySem.W.nsIn K mainGlobals "turned" = some (some (.ref fd22)))
    (ld22 : K.lookup fd22 = some ⟨ocd22, odd22, .func (PySem.W.fnOf "turned" "turned" (defArgs sTurned) (defBody sTurned) (defScope sTurned) .none kVd22 dcd22 pmd22 and22 cdd22 ctd22), sld22⟩)
    (cd22 : PySem.W.codeIn K cdd22 "turned" = true)
    (kd22 : PySem.W.keepIn K (.ref fd22) = true)
    (ad23 : PySem.W.nsIn K mainGlobals "check_standing" = some (some (.ref fd23)))
    (ld23 : K.lookup fd23 = some ⟨ocd23, odd23, .func (PySem.W.fnOf "check_standing" "check_standing" (defArgs sChkSt) (defBody sChkSt) (defScope sChkSt) .none kVd23 dcd23 pmd23 and23 cdd23 ctd23), sld23⟩)
    (cd23 : PySem.W.codeIn K cdd23 "check_standing" = true)
    (kd23 : PySem.W.keepIn K (.ref fd23) = true)
    (ad24 : PySem.W.nsIn K mainGlobals "reaches" = some (some (.ref fd24)))
    (ld24 : K.lookup fd24 = some ⟨ocd24, odd24, .func (PySem.W.fnOf "reaches" "reaches" (defArgs sReaches) (defBody sReaches) (defScope sReaches) .none kVd24 dcd24 pmd24 and24 cdd24 ctd24), sld24⟩)
    (cd24 : PySem.W.codeIn K cdd24 "reaches" = true)
    (kd24 : PySem.W.keepIn K (.ref fd24) = true)
    (ad25 : PySem.W.nsIn K mainGlobals "product" = some (some (.ref fd25)))
    (ld25 : K.lookup fd25 = some ⟨ocd25, odd25, .func (PySem.W.fnOf "product" "product" (defArgs sProduct) (defBody sProduct) (defScope sProduct) .none kVd25 dcd25 pmd25 and25 cdd25 ctd25), sld25⟩)
    (cd25 : PySem.W.codeIn K cdd25 "product" = true)
    (kd25 : PySem.W.keepIn K (.ref fd25) = true)
    (ad26 : PySem.W.nsIn K mainGlobals "how_many" = some (some (.ref fd26)))
    (ld26 : K.lookup fd26 = some ⟨ocd26, odd26, .func (PySem.W.fnOf "how_many" "how_many" (defArgs sHowMany) (defBody sHowMany) (defScope sHowMany) .none kVd26 dcd26 pmd26 and26 cdd26 ctd26), sld26⟩)
    (cd26 : PySem.W.codeIn K cdd26 "how_many" = true)
    (kd26 : PySem.W.keepIn K (.ref fd26) = true)
    (ad27 : PySem.W.nsIn K mainGlobals "check_steps" = some (some (.ref fd27)))
    (ld27 : K.lookup fd27 = some ⟨ocd27, odd27, .func (PySem.W.fnOf "check_steps" "check_steps" (defArgs sChkSteps) (defBody sChkSteps) (defScope sChkSteps) .none kVd27 dcd27 pmd27 and27 cdd27 ctd27), sld27⟩)
    (cd27 : PySem.W.codeIn K cdd27 "check_steps" = true)
    (kd27 : PySem.W.keepIn K (.ref fd27) = true)
    (ad28 : PySem.W.nsIn K mainGlobals "from_steps" = some (some (.ref fd28)))
    (ld28 : K.lookup fd28 = some ⟨ocd28, odd28, .func (PySem.W.fnOf "from_steps" "from_steps" (defArgs sFromSteps) (defBody sFromSteps) (defScope sFromSteps) .none kVd28 dcd28 pmd28 and28 cdd28 ctd28), sld28⟩)
    (cd28 : PySem.W.codeIn K cdd28 "from_steps" = true)
    (kd28 : PySem.W.keepIn K (.ref fd28) = true)
    (ad29 : PySem.W.nsIn K mainGlobals "written" = some (some (.ref fd29)))
    (ld29 : K.lookup fd29 = some ⟨ocd29, odd29, .func (PySem.W.fnOf "written" "written" (defArgs sWritten) (defBody sWritten) (defScope sWritten) .none kVd29 dcd29 pmd29 and29 cdd29 ctd29), sld29⟩)
    (cd29 : PySem.W.codeIn K cdd29 "written" = true)
    (kd29 : PySem.W.keepIn K (.ref fd29) = true)
    (ad30 : PySem.W.nsIn K mainGlobals "tree" = some (some (.ref fd30)))
    (ld30 : K.lookup fd30 = some ⟨ocd30, odd30, .func (PySem.W.fnOf "tree" "tree" (defArgs sTree) (defBody sTree) (defScope sTree) .none kVd30 dcd30 pmd30 and30 (.ref ccd30) ctd30), sld30⟩)
    (cd30 : PySem.W.codeIn K (.ref ccd30) "tree" = true)
    (kd30 : PySem.W.keepIn K (.ref fd30) = true)
    (hmd30 : PySem.W.codeHdIn K ccd30 343 = true)
    (ad31 : PySem.W.nsIn K mainGlobals "children_of" = some (some (.ref fd31)))
    (ld31 : K.lookup fd31 = some ⟨ocd31, odd31, .func (PySem.W.fnOf "children_of" "children_of" (defArgs sKids) (defBody sKids) (defScope sKids) .none kVd31 dcd31 pmd31 and31 cdd31 ctd31), sld31⟩)
    (cd31 : PySem.W.codeIn K cdd31 "children_of" = true)
    (kd31 : PySem.W.keepIn K (.ref fd31) = true)
    (ad32 : PySem.W.nsIn K mainGlobals "served" = some (some (.ref fd32)))
    (ld32 : K.lookup fd32 = some ⟨ocd32, odd32, .func (PySem.W.fnOf "served" "served" (defArgs sServed) (defBody sServed) (defScope sServed) .none kVd32 dcd32 pmd32 and32 cdd32 ctd32), sld32⟩)
    (cd32 : PySem.W.codeIn K cdd32 "served" = true)
    (kd32 : PySem.W.keepIn K (.ref fd32) = true)
    (ad33 : PySem.W.nsIn K mainGlobals "turns_of" = some (some (.ref fd33)))
    (ld33 : K.lookup fd33 = some ⟨ocd33, odd33, .func (PySem.W.fnOf "turns_of" "turns_of" (defArgs sTurnsOf) (defBody sTurnsOf) (defScope sTurnsOf) .none kVd33 dcd33 pmd33 and33 cdd33 ctd33), sld33⟩)
    (cd33 : PySem.W.codeIn K cdd33 "turns_of" = true)
    (kd33 : PySem.W.keepIn K (.ref fd33) = true)
    (ad34 : PySem.W.nsIn K mainGlobals "wishes_of" = some (some (.ref fd34)))
    (ld34 : K.lookup fd34 = some ⟨ocd34, odd34, .func (PySem.W.fnOf "wishes_of" "wishes_of" (defArgs sWishesOf) (defBody sWishesOf) (defScope sWishesOf) .none kVd34 dcd34 pmd34 and34 cdd34 ctd34), sld34⟩)
    (cd34 : PySem.W.codeIn K cdd34 "wishes_of" = true)
    (kd34 : PySem.W.keepIn K (.ref fd34) = true)
    (ad35 : PySem.W.nsIn K mainGlobals "_law_street" = some (some (.ref fd35)))
    (ld35 : K.lookup fd35 = some ⟨ocd35, odd35, .func (PySem.W.fnOf "_law_street" "_law_street" (defArgs sStreetL) (defBody sStreetL) (defScope sStreetL) .none kVd35 dcd35 pmd35 and35 cdd35 ctd35), sld35⟩)
    (cd35 : PySem.W.codeIn K cdd35 "_law_street" = true)
    (kd35 : PySem.W.keepIn K (.ref fd35) = true)
    (ad36 : PySem.W.nsIn K mainGlobals "_law_wishes_asked" = some (some (.ref fd36)))
    (ld36 : K.lookup fd36 = some ⟨ocd36, odd36, .func (PySem.W.fnOf "_law_wishes_asked" "_law_wishes_asked" (defArgs sAskW) (defBody sAskW) (defScope sAskW) .none kVd36 dcd36 pmd36 and36 cdd36 ctd36), sld36⟩)
    (cd36 : PySem.W.codeIn K cdd36 "_law_wishes_asked" = true)
    (kd36 : PySem.W.keepIn K (.ref fd36) = true)
    (ad37 : PySem.W.nsIn K mainGlobals "_law_many_asked" = some (some (.ref fd37)))
    (ld37 : K.lookup fd37 = some ⟨ocd37, odd37, .func (PySem.W.fnOf "_law_many_asked" "_law_many_asked" (defArgs sAskM) (defBody sAskM) (defScope sAskM) .none kVd37 dcd37 pmd37 and37 cdd37 ctd37), sld37⟩)
    (cd37 : PySem.W.codeIn K cdd37 "_law_many_asked" = true)
    (kd37 : PySem.W.keepIn K (.ref fd37) = true)
    (ad38 : PySem.W.nsIn K mainGlobals "_law_others_asked" = some (some (.ref fd38)))
    (ld38 : K.lookup fd38 = some ⟨ocd38, odd38, .func (PySem.W.fnOf "_law_others_asked" "_law_others_asked" (defArgs sAskO) (defBody sAskO) (defScope sAskO) .none kVd38 dcd38 pmd38 and38 cdd38 ctd38), sld38⟩)
    (cd38 : PySem.W.codeIn K cdd38 "_law_others_asked" = true)
    (kd38 : PySem.W.keepIn K (.ref fd38) = true)
    (ad39 : PySem.W.nsIn K mainGlobals "_law_told" = some (some (.ref fd39)))
    (ld39 : K.lookup fd39 = some ⟨ocd39, odd39, .func (PySem.W.fnOf "_law_told" "_law_told" (defArgs sTold) (defBody sTold) (defScope sTold) .none kVd39 dcd39 pmd39 and39 cdd39 ctd39), sld39⟩)
    (cd39 : PySem.W.codeIn K cdd39 "_law_told" = true)
    (kd39 : PySem.W.keepIn K (.ref fd39) = true)
    (ad40 : PySem.W.nsIn K mainGlobals "law" = some (some (.ref fd40)))
    (ld40 : K.lookup fd40 = some ⟨ocd40, odd40, .func (PySem.W.fnOf "law" "law" (defArgs sLaw) (defBody sLaw) (defScope sLaw) .none kVd40 dcd40 pmd40 and40 cdd40 ctd40), sld40⟩)
    (cd40 : PySem.W.codeIn K cdd40 "law" = true)
    (kd40 : PySem.W.keepIn K (.ref fd40) = true)
    (nocl : PySem.W.specialIn K (.builtin "object.__class__") "__get__" = some (some (.builtin "getset_descriptor.__get__")))
    (taken : PySem.W.takesIn K (.builtin "object.__class__") = some true)
    (nKA : PySem.W.nsIn K mainGlobals "Answer" = some (some (.ref KA)))
    (tyKA : PySem.W.typeIn K (.ref KA) = some (.type "type"))
    (isKA : PySem.W.isClsIn K KA = true)
    (nKP : PySem.W.nsIn K mainGlobals "Parked" = some (some (.ref KP)))
    (tyKP : PySem.W.typeIn K (.ref KP) = some (.type "type"))
    (isKP : PySem.W.isClsIn K KP = true)
    (aKP : PySem.W.findIn K (.ref KP) "__init__" = some (some (.ref fKP)))
    (iKP : PySem.W.isFn K (.ref fKP) = true)
    (lKP : K.lookup fKP = some ⟨ocKP, odKP, .func (PySem.W.fnOf "__init__" "Parked.__init__" (defArgs sInitP) (defBody sInitP) (defScope sInitP) .none kVKP dcKP pmKP anKP cdKP ctKP), slKP⟩)
    (cKP : PySem.W.codeIn K cdKP "Parked.__init__" = true)
    (kKP : PySem.W.keepIn K (.ref fKP) = true)
    (pgKP : PySem.W.plainGet K KP Str.empty = true)
    (hdKP : PySem.W.hasDictIn K KP = true)
    (poKP : PySem.W.plainOver K KP = true)
    (saKP : PySem.W.findIn K (.ref KP) "__setattr__" = some (some (.builtin "object.__setattr__")))
    (mkKP : PySem.W.makesIn K KP = true)
    (kcKP : PySem.W.keepIn K (.ref KP) = true)
    (clKP : PySem.W.findIn K (.ref KP) "__class__" = some (some (.builtin "object.__class__")))
    (moKP : PySem.W.mroIn K KP (.type "object") = some true)
    (naKPwhere : PySem.W.findIn K (.ref KP) "where" = some none)
    (nKC : PySem.W.nsIn K mainGlobals "Crowd" = some (some (.ref KC)))
    (tyKC : PySem.W.typeIn K (.ref KC) = some (.type "type"))
    (isKC : PySem.W.isClsIn K KC = true)
    (aKC : PySem.W.findIn K (.ref KC) "__init__" = some (some (.ref fKC)))
    (iKC : PySem.W.isFn K (.ref fKC) = true)
    (lKC : K.lookup fKC = some ⟨ocKC, odKC, .func (PySem.W.fnOf "__init__" "Crowd.__init__" (defArgs sInitC) (defBody sInitC) (defScope sInitC) .none kVKC dcKC pmKC anKC cdKC ctKC), slKC⟩)
    (cKC : PySem.W.codeIn K cdKC "Crowd.__init__" = true)
    (kKC : PySem.W.keepIn K (.ref fKC) = true)
    (pgKC : PySem.W.plainGet K KC Str.empty = true)
    (hdKC : PySem.W.hasDictIn K KC = true)
    (poKC : PySem.W.plainOver K KC = true)
    (saKC : PySem.W.findIn K (.ref KC) "__setattr__" = some (some (.builtin "object.__setattr__")))
    (mkKC : PySem.W.makesIn K KC = true)
    (kcKC : PySem.W.keepIn K (.ref KC) = true)
    (clKC : PySem.W.findIn K (.ref KC) "__class__" = some (some (.builtin "object.__class__")))
    (moKC : PySem.W.mroIn K KC (.type "object") = some true)
    (naKCplace : PySem.W.findIn K (.ref KC) "place" = some none)
    (nCS : PySem.W.nsIn K mainGlobals "StreetError" = some (some (.ref CS)))
    (tyCS : PySem.W.typeIn K (.ref CS) = some (.type "type"))
    (isCS : PySem.W.isClsIn K CS = true)
    (sbCS : PySem.W.subIn K (.ref CS) (.type "BaseException") = some true)
    (nCW : PySem.W.nsIn K mainGlobals "BadWishes" = some (some (.ref CW)))
    (tyCW : PySem.W.typeIn K (.ref CW) = some (.type "type"))
    (isCW : PySem.W.isClsIn K CW = true)
    (nCM : PySem.W.nsIn K mainGlobals "TooMany" = some (some (.ref CM)))
    (tyCM : PySem.W.typeIn K (.ref CM) = some (.type "type"))
    (isCM : PySem.W.isClsIn K CM = true)
    (nCT : PySem.W.nsIn K mainGlobals "BadTree" = some (some (.ref CT)))
    (tyCT : PySem.W.typeIn K (.ref CT) = some (.type "type"))
    (isCT : PySem.W.isClsIn K CT = true)
    (nCP : PySem.W.nsIn K mainGlobals "BadPath" = some (some (.ref CP)))
    (tyCP : PySem.W.typeIn K (.ref CP) = some (.type "type"))
    (isCP : PySem.W.isClsIn K CP = true)
    (nCD : PySem.W.nsIn K mainGlobals "BadStanding" = some (some (.ref CD)))
    (tyCD : PySem.W.typeIn K (.ref CD) = some (.type "type"))
    (isCD : PySem.W.isClsIn K CD = true)
    (nCX : PySem.W.nsIn K mainGlobals "BadText" = some (some (.ref CX)))
    (tyCX : PySem.W.typeIn K (.ref CX) = some (.type "type"))
    (isCX : PySem.W.isClsIn K CX = true)
    (gaCW : PySem.W.findIn K (.ref CW) "__getattribute__" = some (some (.builtin "BaseException.__getattribute__")))
    (gnCW : PySem.W.findIn K (.ref CW) "__getattr__" = some none)
    (clCW : PySem.W.findIn K (.ref CW) "__class__" = some (some (.builtin "object.__class__")))
    (moCW : PySem.W.mroIn K CW (.type "object") = some true)
    (mbCW : PySem.W.mroIn K CW (.type "BaseException") = some true)
    (exCW : PySem.W.excIn K CW [.type "ValueError", .type "Exception", .type "BaseException", .type "object"] "ValueError.__new__" = true)
    (kpCW : PySem.W.keepIn K (.ref CW) = true)
    (svCW : PySem.W.subIn K (.ref CW) (.type "ValueError") = some true)
    (suCWCM : PySem.W.subIn K (.ref CW) (.ref CM) = some false)
    (neCWCM : (Value.ref CW == Value.ref CM) = false)
    (suCWCT : PySem.W.subIn K (.ref CW) (.ref CT) = some false)
    (neCWCT : (Value.ref CW == Value.ref CT) = false)
    (suCWCP : PySem.W.subIn K (.ref CW) (.ref CP) = some false)
    (neCWCP : (Value.ref CW == Value.ref CP) = false)
    (suCWCD : PySem.W.subIn K (.ref CW) (.ref CD) = some false)
    (neCWCD : (Value.ref CW == Value.ref CD) = false)
    (suCWCX : PySem.W.subIn K (.ref CW) (.ref CX) = some false)
    (neCWCX : (Value.ref CW == Value.ref CX) = false)
    (suCWCS : PySem.W.subIn K (.ref CW) (.ref CS) = some true)
    (gaCM : PySem.W.findIn K (.ref CM) "__getattribute__" = some (some (.builtin "BaseException.__getattribute__")))
    (gnCM : PySem.W.findIn K (.ref CM) "__getattr__" = some none)
    (clCM : PySem.W.findIn K (.ref CM) "__class__" = some (some (.builtin "object.__class__")))
    (moCM : PySem.W.mroIn K CM (.type "object") = some true)
    (mbCM : PySem.W.mroIn K CM (.type "BaseException") = some true)
    (exCM : PySem.W.excIn K CM [.type "ValueError", .type "Exception", .type "BaseException", .type "object"] "ValueError.__new__" = true)
    (kpCM : PySem.W.keepIn K (.ref CM) = true)
    (svCM : PySem.W.subIn K (.ref CM) (.type "ValueError") = some true)
    (suCMCW : PySem.W.subIn K (.ref CM) (.ref CW) = some false)
    (neCMCW : (Value.ref CM == Value.ref CW) = false)
    (suCMCT : PySem.W.subIn K (.ref CM) (.ref CT) = some false)
    (neCMCT : (Value.ref CM == Value.ref CT) = false)
    (suCMCP : PySem.W.subIn K (.ref CM) (.ref CP) = some false)
    (neCMCP : (Value.ref CM == Value.ref CP) = false)
    (suCMCD : PySem.W.subIn K (.ref CM) (.ref CD) = some false)
    (neCMCD : (Value.ref CM == Value.ref CD) = false)
    (suCMCX : PySem.W.subIn K (.ref CM) (.ref CX) = some false)
    (neCMCX : (Value.ref CM == Value.ref CX) = false)
    (suCMCS : PySem.W.subIn K (.ref CM) (.ref CS) = some true)
    (gaCT : PySem.W.findIn K (.ref CT) "__getattribute__" = some (some (.builtin "BaseException.__getattribute__")))
    (gnCT : PySem.W.findIn K (.ref CT) "__getattr__" = some none)
    (clCT : PySem.W.findIn K (.ref CT) "__class__" = some (some (.builtin "object.__class__")))
    (moCT : PySem.W.mroIn K CT (.type "object") = some true)
    (mbCT : PySem.W.mroIn K CT (.type "BaseException") = some true)
    (exCT : PySem.W.excIn K CT [.type "ValueError", .type "Exception", .type "BaseException", .type "object"] "ValueError.__new__" = true)
    (kpCT : PySem.W.keepIn K (.ref CT) = true)
    (svCT : PySem.W.subIn K (.ref CT) (.type "ValueError") = some true)
    (suCTCW : PySem.W.subIn K (.ref CT) (.ref CW) = some false)
    (neCTCW : (Value.ref CT == Value.ref CW) = false)
    (suCTCM : PySem.W.subIn K (.ref CT) (.ref CM) = some false)
    (neCTCM : (Value.ref CT == Value.ref CM) = false)
    (suCTCP : PySem.W.subIn K (.ref CT) (.ref CP) = some false)
    (neCTCP : (Value.ref CT == Value.ref CP) = false)
    (suCTCD : PySem.W.subIn K (.ref CT) (.ref CD) = some false)
    (neCTCD : (Value.ref CT == Value.ref CD) = false)
    (suCTCX : PySem.W.subIn K (.ref CT) (.ref CX) = some false)
    (neCTCX : (Value.ref CT == Value.ref CX) = false)
    (suCTCS : PySem.W.subIn K (.ref CT) (.ref CS) = some true)
    (gaCP : PySem.W.findIn K (.ref CP) "__getattribute__" = some (some (.builtin "BaseException.__getattribute__")))
    (gnCP : PySem.W.findIn K (.ref CP) "__getattr__" = some none)
    (clCP : PySem.W.findIn K (.ref CP) "__class__" = some (some (.builtin "object.__class__")))
    (moCP : PySem.W.mroIn K CP (.type "object") = some true)
    (mbCP : PySem.W.mroIn K CP (.type "BaseException") = some true)
    (exCP : PySem.W.excIn K CP [.type "ValueError", .type "Exception", .type "BaseException", .type "object"] "ValueError.__new__" = true)
    (kpCP : PySem.W.keepIn K (.ref CP) = true)
    (svCP : PySem.W.subIn K (.ref CP) (.type "ValueError") = some true)
    (suCPCW : PySem.W.subIn K (.ref CP) (.ref CW) = some false)
    (neCPCW : (Value.ref CP == Value.ref CW) = false)
    (suCPCM : PySem.W.subIn K (.ref CP) (.ref CM) = some false)
    (neCPCM : (Value.ref CP == Value.ref CM) = false)
    (suCPCT : PySem.W.subIn K (.ref CP) (.ref CT) = some false)
    (neCPCT : (Value.ref CP == Value.ref CT) = false)
    (suCPCD : PySem.W.subIn K (.ref CP) (.ref CD) = some false)
    (neCPCD : (Value.ref CP == Value.ref CD) = false)
    (suCPCX : PySem.W.subIn K (.ref CP) (.ref CX) = some false)
    (neCPCX : (Value.ref CP == Value.ref CX) = false)
    (suCPCS : PySem.W.subIn K (.ref CP) (.ref CS) = some true)
    (gaCD : PySem.W.findIn K (.ref CD) "__getattribute__" = some (some (.builtin "BaseException.__getattribute__")))
    (gnCD : PySem.W.findIn K (.ref CD) "__getattr__" = some none)
    (clCD : PySem.W.findIn K (.ref CD) "__class__" = some (some (.builtin "object.__class__")))
    (moCD : PySem.W.mroIn K CD (.type "object") = some true)
    (mbCD : PySem.W.mroIn K CD (.type "BaseException") = some true)
    (exCD : PySem.W.excIn K CD [.type "ValueError", .type "Exception", .type "BaseException", .type "object"] "ValueError.__new__" = true)
    (kpCD : PySem.W.keepIn K (.ref CD) = true)
    (svCD : PySem.W.subIn K (.ref CD) (.type "ValueError") = some true)
    (suCDCW : PySem.W.subIn K (.ref CD) (.ref CW) = some false)
    (neCDCW : (Value.ref CD == Value.ref CW) = false)
    (suCDCM : PySem.W.subIn K (.ref CD) (.ref CM) = some false)
    (neCDCM : (Value.ref CD == Value.ref CM) = false)
    (suCDCT : PySem.W.subIn K (.ref CD) (.ref CT) = some false)
    (neCDCT : (Value.ref CD == Value.ref CT) = false)
    (suCDCP : PySem.W.subIn K (.ref CD) (.ref CP) = some false)
    (neCDCP : (Value.ref CD == Value.ref CP) = false)
    (suCDCX : PySem.W.subIn K (.ref CD) (.ref CX) = some false)
    (neCDCX : (Value.ref CD == Value.ref CX) = false)
    (suCDCS : PySem.W.subIn K (.ref CD) (.ref CS) = some true)
    (zValueError : PySem.W.nsIn K mainGlobals "ValueError" = some none)
    (coMOST_PLACES : PySem.W.nsIn K mainGlobals "MOST_PLACES" = some (some (.int 1000000 tk_MOST_PLACES)))
    (sib : PySem.W.subIn K (.type "int") (.type "bool") = some false)
    (zisinstance : PySem.W.nsIn K mainGlobals "isinstance" = some none)
    (zint : PySem.W.nsIn K mainGlobals "int" = some none)
    (zbool : PySem.W.nsIn K mainGlobals "bool" = some none)
    (zlist : PySem.W.nsIn K mainGlobals "list" = some none)
    (zenumerate : PySem.W.nsIn K mainGlobals "enumerate" = some none)
    (zsorted : PySem.W.nsIn K mainGlobals "sorted" = some none)
    (zrange : PySem.W.nsIn K mainGlobals "range" = some none)
    (zall : PySem.W.nsIn K mainGlobals "all" = some none)
    (zany : PySem.W.nsIn K mainGlobals "any" = some none)
    (zsum : PySem.W.nsIn K mainGlobals "sum" = some none)
    (zmax : PySem.W.nsIn K mainGlobals "max" = some none)
    (zlen : PySem.W.nsIn K mainGlobals "len" = some none)
    (zzip : PySem.W.nsIn K mainGlobals "zip" = some none)
    (zstr : PySem.W.nsIn K mainGlobals "str" = some none)
    (zset : PySem.W.nsIn K mainGlobals "set" = some none) :
    ∃ fd : FuncData, (∀ (s : Shared) (v : Value), BindsTo s fd ⟨[v], []⟩ [("_law_script", v)]) ∧ (∃ cc, PySem.W.codeHdIn K cc 343 = true) ∧ ∀ base : Heap, K.In base → base.Ns mainGlobals mg → Bm mg base → FnOk P w K mg base CX0 9 fa fd ["_law_script"] (spLaw 343 K) := by
  have S0 : Src K mg "is_number" sIsNum ["thing"] := ⟨fd0, _, PySem.W.mg_of X G ad0, fun_mk (st := sIsNum) ld0 cd0 kd0, (fun_mk (st := sIsNum) ld0 cd0 kd0).binds (ps := ["thing"]) fun _ _ _ _ _ _ us hl => match us, hl with | [_], _ => rfl⟩
  have S1 : Src K mg "is_each_below" sEachB ["bound", "things"] := ⟨fd1, _, PySem.W.mg_of X G ad1, fun_mk (st := sEachB) ld1 cd1 kd1, (fun_mk (st := sEachB) ld1 cd1 kd1).binds (ps := ["bound", "things"]) fun _ _ _ _ _ _ us hl => match us, hl with | [_, _], _ => rfl⟩
  have S2 : Src K mg "is_list_below_its_length" sListB ["things", "more"] := ⟨fd2, _, PySem.W.mg_of X G ad2, fun_mk (st := sListB) ld2 cd2 kd2, (fun_mk (st := sListB) ld2 cd2 kd2).binds (ps := ["things", "more"]) fun _ _ _ _ _ _ us hl => match us, hl with | [_, _], _ => rfl⟩
  have S3 : Src K mg "is_street" sIsStreet ["places"] := ⟨fd3, _, PySem.W.mg_of X G ad3, fun_mk (st := sIsStreet) ld3 cd3 kd3, (fun_mk (st := sIsStreet) ld3 cd3 kd3).binds (ps := ["places"]) fun _ _ _ _ _ _ us hl => match us, hl with | [_], _ => rfl⟩
  have S4 : Src K mg "check_street" sChkStreet ["places", "wishes"] := ⟨fd4, _, PySem.W.mg_of X G ad4, fun_mk (st := sChkStreet) ld4 cd4 kd4, (fun_mk (st := sChkStreet) ld4 cd4 kd4).binds (ps := ["places", "wishes"]) fun _ _ _ _ _ _ us hl => match us, hl with | [_, _], _ => rfl⟩
  have S5 : Src K mg "check_by_cars" sByCars ["wishes", "more"] := ⟨fd5, _, PySem.W.mg_of X G ad5, fun_mk (st := sByCars) ld5 cd5 kd5, (fun_mk (st := sByCars) ld5 cd5 kd5).binds (ps := ["wishes", "more"]) fun _ _ _ _ _ _ us hl => match us, hl with | [_, _], _ => rfl⟩
  have S6 : Src K mg "crowd_place" sCrowdPl ["places", "wishes"] := ⟨fd6, _, PySem.W.mg_of X G ad6, fun_mk (st := sCrowdPl) ld6 cd6 kd6, (fun_mk (st := sCrowdPl) ld6 cd6 kd6).binds (ps := ["places", "wishes"]) fun _ _ _ _ _ _ us hl => match us, hl with | [_, _], _ => rfl⟩
  have S7 : Src K mg "check_full" sChkFull ["wishes"] := ⟨fd7, _, PySem.W.mg_of X G ad7, fun_mk (st := sChkFull) ld7 cd7 kd7, (fun_mk (st := sChkFull) ld7 cd7 kd7).binds (ps := ["wishes"]) fun _ _ _ _ _ _ us hl => match us, hl with | [_], _ => rfl⟩
  have S8 : Src K mg "first_free" sFree ["onward", "wish"] := ⟨fd8, _, PySem.W.mg_of X G ad8, fun_mk (st := sFree) ld8 cd8 kd8, (fun_mk (st := sFree) ld8 cd8 kd8).binds (ps := ["onward", "wish"]) fun _ _ _ _ _ _ us hl => match us, hl with | [_, _], _ => rfl⟩
  have S9 : Src K mg "stands" sStands ["places", "wishes"] := ⟨fd9, _, PySem.W.mg_of X G ad9, fun_mk (st := sStands) ld9 cd9 kd9, (fun_mk (st := sStands) ld9 cd9 kd9).binds (ps := ["places", "wishes"]) fun _ _ _ _ _ _ us hl => match us, hl with | [_, _], _ => rfl⟩
  have S10 : Src K mg "parked" sParked ["places", "wishes"] := ⟨fd10, _, PySem.W.mg_of X G ad10, fun_mk (st := sParked) ld10 cd10 kd10, (fun_mk (st := sParked) ld10 cd10 kd10).binds (ps := ["places", "wishes"]) fun _ _ _ _ _ _ us hl => match us, hl with | [_, _], _ => rfl⟩
  have S11 : Src K mg "taken" sTaken ["places", "wishes"] := ⟨fd11, _, PySem.W.mg_of X G ad11, fun_mk (st := sTaken) ld11 cd11 kd11, (fun_mk (st := sTaken) ld11 cd11 kd11).binds (ps := ["places", "wishes"]) fun _ _ _ _ _ _ us hl => match us, hl with | [_, _], _ => rfl⟩
  have S12 : Src K mg "driven_off" sOff ["places", "wishes"] := ⟨fd12, _, PySem.W.mg_of X G ad12, fun_mk (st := sOff) ld12 cd12 kd12, (fun_mk (st := sOff) ld12 cd12 kd12).binds (ps := ["places", "wishes"]) fun _ _ _ _ _ _ us hl => match us, hl with | [_, _], _ => rfl⟩
  have S13 : Src K mg "lucky" sLucky ["places", "wishes"] := ⟨fd13, _, PySem.W.mg_of X G ad13, fun_mk (st := sLucky) ld13 cd13 kd13, (fun_mk (st := sLucky) ld13 cd13 kd13).binds (ps := ["places", "wishes"]) fun _ _ _ _ _ _ us hl => match us, hl with | [_, _], _ => rfl⟩
  have S14 : Src K mg "drives" sDrives ["wishes"] := ⟨fd14, _, PySem.W.mg_of X G ad14, fun_mk (st := sDrives) ld14 cd14 kd14, (fun_mk (st := sDrives) ld14 cd14 kd14).binds (ps := ["wishes"]) fun _ _ _ _ _ _ us hl => match us, hl with | [_], _ => rfl⟩
  have S15 : Src K mg "path" sPath ["wishes"] := ⟨fd15, _, PySem.W.mg_of X G ad15, fun_mk (st := sPath) ld15 cd15 kd15, (fun_mk (st := sPath) ld15 cd15 kd15).binds (ps := ["wishes"]) fun _ _ _ _ _ _ us hl => match us, hl with | [_], _ => rfl⟩
  have S16 : Src K mg "heights" sHeights ["text"] := ⟨fd16, _, PySem.W.mg_of X G ad16, fun_mk (st := sHeights) ld16 cd16 kd16, (fun_mk (st := sHeights) ld16 cd16 kd16).binds (ps := ["text"]) fun _ _ _ _ _ _ us hl => match us, hl with | [_], _ => rfl⟩
  have S17 : Src K mg "beneath" sBeneath ["text"] := ⟨fd17, _, PySem.W.mg_of X G ad17, fun_mk (st := sBeneath) ld17 cd17 kd17, (fun_mk (st := sBeneath) ld17 cd17 kd17).binds (ps := ["text"]) fun _ _ _ _ _ _ us hl => match us, hl with | [_], _ => rfl⟩
  have S18 : Src K mg "rising" sRising ["text"] := ⟨fd18, _, PySem.W.mg_of X G ad18, fun_mk (st := sRising) ld18 cd18 kd18, (fun_mk (st := sRising) ld18 cd18 kd18).binds (ps := ["text"]) fun _ _ _ _ _ _ us hl => match us, hl with | [_], _ => rfl⟩
  have S19 : Src K mg "stands_around" sAround ["places", "wishes"] := ⟨fd19, _, PySem.W.mg_of X G ad19, fun_mk (st := sAround) ld19 cd19 kd19, (fun_mk (st := sAround) ld19 cd19 kd19).binds (ps := ["places", "wishes"]) fun _ _ _ _ _ _ us hl => match us, hl with | [_, _], _ => rfl⟩
  have S20 : Src K mg "ring" sRing ["places", "wishes"] := ⟨fd20, _, PySem.W.mg_of X G ad20, fun_mk (st := sRing) ld20 cd20 kd20, (fun_mk (st := sRing) ld20 cd20 kd20).binds (ps := ["places", "wishes"]) fun _ _ _ _ _ _ us hl => match us, hl with | [_, _], _ => rfl⟩
  have S21 : Src K mg "turning" sTurning ["wishes"] := ⟨fd21, _, PySem.W.mg_of X G ad21, fun_mk (st := sTurning) ld21 cd21 kd21, (fun_mk (st := sTurning) ld21 cd21 kd21).binds (ps := ["wishes"]) fun _ _ _ _ _ _ us hl => match us, hl with | [_], _ => rfl⟩
  have S22 : Src K mg "turned" sTurned ["wishes", "by"] := ⟨fd22, _, PySem.W.mg_of X G ad22, fun_mk (st := sTurned) ld22 cd22 kd22, (fun_mk (st := sTurned) ld22 cd22 kd22).binds (ps := ["wishes", "by"]) fun _ _ _ _ _ _ us hl => match us, hl with | [_, _], _ => rfl⟩
  have S23 : Src K mg "check_standing" sChkSt ["standing"] := ⟨fd23, _, PySem.W.mg_of X G ad23, fun_mk (st := sChkSt) ld23 cd23 kd23, (fun_mk (st := sChkSt) ld23 cd23 kd23).binds (ps := ["standing"]) fun _ _ _ _ _ _ us hl => match us, hl with | [_], _ => rfl⟩
  have S24 : Src K mg "reaches" sReaches ["standing"] := ⟨fd24, _, PySem.W.mg_of X G ad24, fun_mk (st := sReaches) ld24 cd24 kd24, (fun_mk (st := sReaches) ld24 cd24 kd24).binds (ps := ["standing"]) fun _ _ _ _ _ _ us hl => match us, hl with | [_], _ => rfl⟩
  have S25 : Src K mg "product" sProduct ["factors"] := ⟨fd25, _, PySem.W.mg_of X G ad25, fun_mk (st := sProduct) ld25 cd25 kd25, (fun_mk (st := sProduct) ld25 cd25 kd25).binds (ps := ["factors"]) fun _ _ _ _ _ _ us hl => match us, hl with | [_], _ => rfl⟩
  have S26 : Src K mg "how_many" sHowMany ["standing"] := ⟨fd26, _, PySem.W.mg_of X G ad26, fun_mk (st := sHowMany) ld26 cd26 kd26, (fun_mk (st := sHowMany) ld26 cd26 kd26).binds (ps := ["standing"]) fun _ _ _ _ _ _ us hl => match us, hl with | [_], _ => rfl⟩
  have S27 : Src K mg "check_steps" sChkSteps ["most", "steps"] := ⟨fd27, _, PySem.W.mg_of X G ad27, fun_mk (st := sChkSteps) ld27 cd27 kd27, (fun_mk (st := sChkSteps) ld27 cd27 kd27).binds (ps := ["most", "steps"]) fun _ _ _ _ _ _ us hl => match us, hl with | [_, _], _ => rfl⟩
  have S28 : Src K mg "from_steps" sFromSteps ["standing", "steps"] := ⟨fd28, _, PySem.W.mg_of X G ad28, fun_mk (st := sFromSteps) ld28 cd28 kd28, (fun_mk (st := sFromSteps) ld28 cd28 kd28).binds (ps := ["standing", "steps"]) fun _ _ _ _ _ _ us hl => match us, hl with | [_, _], _ => rfl⟩
  have S29 : Src K mg "written" sWritten ["places", "wishes"] := ⟨fd29, _, PySem.W.mg_of X G ad29, fun_mk (st := sWritten) ld29 cd29 kd29, (fun_mk (st := sWritten) ld29 cd29 kd29).binds (ps := ["places", "wishes"]) fun _ _ _ _ _ _ us hl => match us, hl with | [_, _], _ => rfl⟩
  have S30 : SrcL K mg "tree" sTree ["wishes"] 343 := ⟨fd30, ccd30, _, _, _, _, _, _, _, _, PySem.W.mg_of X G ad30, ld30, cd30, kd30, hmd30, (fun_mk (st := sTree) ld30 cd30 kd30).binds (ps := ["wishes"]) fun _ _ _ _ _ _ us hl => match us, hl with | [_], _ => rfl⟩
  have S31 : Src K mg "children_of" sKids ["parents"] := ⟨fd31, _, PySem.W.mg_of X G ad31, fun_mk (st := sKids) ld31 cd31 kd31, (fun_mk (st := sKids) ld31 cd31 kd31).binds (ps := ["parents"]) fun _ _ _ _ _ _ us hl => match us, hl with | [_], _ => rfl⟩
  have S32 : Src K mg "served" sServed ["children"] := ⟨fd32, _, PySem.W.mg_of X G ad32, fun_mk (st := sServed) ld32 cd32 kd32, (fun_mk (st := sServed) ld32 cd32 kd32).binds (ps := ["children"]) fun _ _ _ _ _ _ us hl => match us, hl with | [_], _ => rfl⟩
  have S33 : Src K mg "turns_of" sTurnsOf ["row"] := ⟨fd33, _, PySem.W.mg_of X G ad33, fun_mk (st := sTurnsOf) ld33 cd33 kd33, (fun_mk (st := sTurnsOf) ld33 cd33 kd33).binds (ps := ["row"]) fun _ _ _ _ _ _ us hl => match us, hl with | [_], _ => rfl⟩
  have S34 : Src K mg "wishes_of" sWishesOf ["parents"] := ⟨fd34, _, PySem.W.mg_of X G ad34, fun_mk (st := sWishesOf) ld34 cd34 kd34, (fun_mk (st := sWishesOf) ld34 cd34 kd34).binds (ps := ["parents"]) fun _ _ _ _ _ _ us hl => match us, hl with | [_], _ => rfl⟩
  have S35 : Src K mg "_law_street" sStreetL ["_law_door", "_law_places", "_law_wishes"] := ⟨fd35, _, PySem.W.mg_of X G ad35, fun_mk (st := sStreetL) ld35 cd35 kd35, (fun_mk (st := sStreetL) ld35 cd35 kd35).binds (ps := ["_law_door", "_law_places", "_law_wishes"]) fun _ _ _ _ _ _ us hl => match us, hl with | [_, _, _], _ => rfl⟩
  have S36 : Src K mg "_law_wishes_asked" sAskW ["_law_which", "_law_more"] := ⟨fd36, _, PySem.W.mg_of X G ad36, fun_mk (st := sAskW) ld36 cd36 kd36, (fun_mk (st := sAskW) ld36 cd36 kd36).binds (ps := ["_law_which", "_law_more"]) fun _ _ _ _ _ _ us hl => match us, hl with | [_, _], _ => rfl⟩
  have S37 : Src K mg "_law_many_asked" sAskM ["_law_which", "_law_more"] := ⟨fd37, _, PySem.W.mg_of X G ad37, fun_mk (st := sAskM) ld37 cd37 kd37, (fun_mk (st := sAskM) ld37 cd37 kd37).binds (ps := ["_law_which", "_law_more"]) fun _ _ _ _ _ _ us hl => match us, hl with | [_, _], _ => rfl⟩
  have S38 : Src K mg "_law_others_asked" sAskO ["_law_kind", "_law_which", "_law_more"] := ⟨fd38, _, PySem.W.mg_of X G ad38, fun_mk (st := sAskO) ld38 cd38 kd38, (fun_mk (st := sAskO) ld38 cd38 kd38).binds (ps := ["_law_kind", "_law_which", "_law_more"]) fun _ _ _ _ _ _ us hl => match us, hl with | [_, _, _], _ => rfl⟩
  have S39 : Src K mg "_law_told" sTold ["_law_kind", "_law_which", "_law_more"] := ⟨fd39, _, PySem.W.mg_of X G ad39, fun_mk (st := sTold) ld39 cd39 kd39, (fun_mk (st := sTold) ld39 cd39 kd39).binds (ps := ["_law_kind", "_law_which", "_law_more"]) fun _ _ _ _ _ _ us hl => match us, hl with | [_, _, _], _ => rfl⟩
  have FL := fun_mk (st := sLaw) ld40 cd40 kd40
  have xCW : XC K CW := ⟨gaCW, gnCW, clCW, nocl, taken, moCW, mbCW, isCW, exCW, kpCW⟩
  have ZCW : Xk K CW CS CW CM CT CP CD CX true false false false false false := ⟨xCW, exm_mk sbCS isCS tyCS suCWCS, kit_ty (by decide +kernel) svCW (by rfl), kit_own, kit_ref isCM tyCM suCWCM (.inr neCWCM), kit_ref isCT tyCT suCWCT (.inr neCWCT), kit_ref isCP tyCP suCWCP (.inr neCWCP), kit_ref isCD tyCD suCWCD (.inr neCWCD), kit_ref isCX tyCX suCWCX (.inr neCWCX)⟩
  have xCM : XC K CM := ⟨gaCM, gnCM, clCM, nocl, taken, moCM, mbCM, isCM, exCM, kpCM⟩
  have ZCM : Xk K CM CS CW CM CT CP CD CX false true false false false false := ⟨xCM, exm_mk sbCS isCS tyCS suCMCS, kit_ty (by decide +kernel) svCM (by rfl), kit_ref isCW tyCW suCMCW (.inr neCMCW), kit_own, kit_ref isCT tyCT suCMCT (.inr neCMCT), kit_ref isCP tyCP suCMCP (.inr neCMCP), kit_ref isCD tyCD suCMCD (.inr neCMCD), kit_ref isCX tyCX suCMCX (.inr neCMCX)⟩
  have xCT : XC K CT := ⟨gaCT, gnCT, clCT, nocl, taken, moCT, mbCT, isCT, exCT, kpCT⟩
  have ZCT : Xk K CT CS CW CM CT CP CD CX false false true false false false := ⟨xCT, exm_mk sbCS isCS tyCS suCTCS, kit_ty (by decide +kernel) svCT (by rfl), kit_ref isCW tyCW suCTCW (.inr neCTCW), kit_ref isCM tyCM suCTCM (.inr neCTCM), kit_own, kit_ref isCP tyCP suCTCP (.inr neCTCP), kit_ref isCD tyCD suCTCD (.inr neCTCD), kit_ref isCX tyCX suCTCX (.inr neCTCX)⟩
  have xCP : XC K CP := ⟨gaCP, gnCP, clCP, nocl, taken, moCP, mbCP, isCP, exCP, kpCP⟩
  have ZCP : Xk K CP CS CW CM CT CP CD CX false false false true false false := ⟨xCP, exm_mk sbCS isCS tyCS suCPCS, kit_ty (by decide +kernel) svCP (by rfl), kit_ref isCW tyCW suCPCW (.inr neCPCW), kit_ref isCM tyCM suCPCM (.inr neCPCM), kit_ref isCT tyCT suCPCT (.inr neCPCT), kit_own, kit_ref isCD tyCD suCPCD (.inr neCPCD), kit_ref isCX tyCX suCPCX (.inr neCPCX)⟩
  have xCD : XC K CD := ⟨gaCD, gnCD, clCD, nocl, taken, moCD, mbCD, isCD, exCD, kpCD⟩
  have ZCD : Xk K CD CS CW CM CT CP CD CX false false false false true false := ⟨xCD, exm_mk sbCS isCS tyCS suCDCS, kit_ty (by decide +kernel) svCD (by rfl), kit_ref isCW tyCW suCDCW (.inr neCDCW), kit_ref isCM tyCM suCDCM (.inr neCDCM), kit_ref isCT tyCT suCDCT (.inr neCDCT), kit_ref isCP tyCP suCDCP (.inr neCDCP), kit_own, kit_ref isCX tyCX suCDCX (.inr neCDCX)⟩
  have NX : Xs K mg CS CW CM CT CP CD CX := ⟨PySem.W.mg_of X G nCS, PySem.W.mg_of X G nCW, PySem.W.mg_of X G nCM, PySem.W.mg_of X G nCT, PySem.W.mg_of X G nCP, PySem.W.mg_of X G nCD, PySem.W.mg_of X G nCX, PySem.W.mg_none_of X G zValueError⟩
  have B3 : Bt3 mg := ⟨PySem.W.mg_none_of X G zzip, PySem.W.mg_none_of X G zset⟩
  have B2 : Bt2 mg := ⟨PySem.W.mg_none_of X G zzip, PySem.W.mg_none_of X G zstr⟩
  have B : Bt K mg := ⟨PySem.W.mg_none_of X G zisinstance, PySem.W.mg_none_of X G zint, PySem.W.mg_none_of X G zbool, PySem.W.mg_none_of X G zlist, PySem.W.mg_none_of X G zenumerate, PySem.W.mg_none_of X G zsorted, PySem.W.mg_none_of X G zrange, PySem.W.mg_none_of X G zall, PySem.W.mg_none_of X G zany, PySem.W.mg_none_of X G zsum, PySem.W.mg_none_of X G zmax, PySem.W.mg_none_of X G zlen, kit_ty (by decide +kernel) sib (by rfl)⟩
  have cp : Cls K KP := ⟨pgKP, hdKP, poKP, saKP⟩
  have cc : Cls K KC := ⟨pgKC, hdKC, poKC, saKC⟩
  have T : Ans K mg KP KC := ⟨cp, cc, naKPwhere, naKCplace, PySem.W.mg_of X G nKP, PySem.W.mg_of X G nKC,
    ⟨fKP, _, ⟨mkKP, aKP, iKP, kcKP⟩, fun_mk (st := sInitP) lKP cKP kKP, (fun_mk (st := sInitP) lKP cKP kKP).binds (ps := ["self", "where"]) fun _ _ _ _ _ _ us hl => match us, hl with | [_, _], _ => rfl⟩,
    ⟨fKC, _, ⟨mkKC, aKC, iKC, kcKC⟩, fun_mk (st := sInitC) lKC cKC kKC, (fun_mk (st := sInitC) lKC cKC kKC).binds (ps := ["self", "place"]) fun _ _ _ _ _ _ us hl => match us, hl with | [_, _], _ => rfl⟩⟩
  have J : IsP K mg KP := ⟨fun e => .ins e cp clKP nocl taken moKP, kit_own⟩
  have LAW := fun (base : Heap) (bm : Bm mg base) => by
    have DG := d_isnumG (P := P) (w := w) (base := base) S0 B
    have D1 := d_eachb (P := P) (w := w) (base := base) S1 DG
    have DL := d_listb (P := P) (w := w) (base := base) S2 B D1
    have D2 := d_isstreet (P := P) (w := w) (base := base) S3 ⟨_, PySem.W.mg_of X G coMOST_PLACES⟩ DG
    have DN : Def P w K mg base 1 "is_number" ["thing"] spIsNum := d_isnum DG
    have D3 : Def P w K mg base 3 "check_street" ["places", "wishes"] spChkStreet := d_chkstreet S4 B D2 D1
    have D4 : Def P w K mg base 4 "check_by_cars" ["wishes", "more"] spByCars := d_bycars S5 DL
    have D5 : Def P w K mg base 1 "crowd_place" ["places", "wishes"] spCrowd := d_crowd S6 B
    have D6 : DefX P w K mg base 5 "check_full" ["wishes"] (spChkFull CM) := d_chkfull S7 B xCM NX.mm D4 D5
    have D7 : Def P w K mg base 1 "first_free" ["onward", "wish"] spFree := d_free S8
    have D8 : Def P w K mg base 2 "stands" ["places", "wishes"] spStands := d_stands S9 D7
    have G6 := d_parked (P := P) (w := w) (base := base) S10 B T D3 D5 D8
    have G7 : Def P w K mg base 4 "taken" ["places", "wishes"] spTaken := d_taken S11 B D3 D8
    have G1 : DefX P w K mg base 6 "drives" ["wishes"] (spDrives CM) := d_drives S14 B D6
    have G3 : DefX P w K mg base 6 "path" ["wishes"] (spPath CM) := d_path S15 B D6
    have DH : DefX P w K mg base 1 "heights" ["text"] (spHeights K CP) := d_heights S16 B B2 xCP NX.mp
    have G12 : DefX P w K mg base 2 "beneath" ["text"] (spBeneath K CP) := d_beneath S17 B B2 DH
    have G11 : DefX P w K mg base 2 "rising" ["text"] (spRising K CP) := d_rising S18 DH
    have DA : Def P w K mg base 2 "stands_around" ["places", "wishes"] spAround := d_around S19 D7
    have G13 : DefX P w K mg base 4 "ring" ["places", "wishes"] (spRing CM) := d_ring S20 B xCM NX.mm D3 DA
    have G5 : Def P w K mg base 5 "turning" ["wishes"] spTurning := d_turning S21 B D4 DA
    have G14 : Def P w K mg base 5 "turned" ["wishes", "by"] spTurned := d_turned S22 B DN D4
    have DS : Def P w K mg base 4 "check_standing" ["standing"] spChkSt := d_chkst S23 B B3 DL
    have G9 : Def P w K mg base 5 "reaches" ["standing"] spReaches := d_reaches S24 B DS
    have DP : Def P w K mg base 1 "product" ["factors"] spProduct := d_product S25 B
    have G8 : Def P w K mg base 6 "how_many" ["standing"] spHowMany := d_howmany S26 B G9 DP
    have DC : DefX P w K mg base 2 "check_steps" ["most", "steps"] (spChkSteps K CD) := d_chksteps S27 B B3 xCD NX.md DG
    have G10 : DefX P w K mg base 6 "from_steps" ["standing", "steps"] (spFromSteps K CD) := d_fromsteps S28 B G9 DC
    have G2 : DefX P w K mg base 6 "tree" ["wishes"] (spTree CM 343) := d_tree S30 B bm D6
    have E7 : Def P w K mg base 1 "children_of" ["parents"] spKids := d_kids S31 B
    have E8 : Def P w K mg base 1 "served" ["children"] spServed := d_served S32 B
    have E9 : Def P w K mg base 1 "turns_of" ["row"] spTurnsOf := d_turnsof S33 B
    have G4 : DefX P w K mg base 4 "wishes_of" ["parents"] (spWishesOf K CT) := d_wishesof S34 B xCT NX.mt DL E7 E8 E9
    have X3 : DefX P w K mg base 3 "check_street" ["places", "wishes"] (spBadSt K CW) := d_chkstreetX S4 B xCW NX.mw D2 D1
    have XB : DefX P w K mg base 4 "check_by_cars" ["wishes", "more"] (spBadC K CW) := d_bycarsX S5 xCW NX.mw DL
    have XF := d_chkfullX (P := P) (w := w) (base := base) (CW := CW) (CM := CM) S7 B XB
    have XS : DefX P w K mg base 4 "check_standing" ["standing"] (spBadSd K CD) := d_chkstX S23 B B3 xCD NX.md DL
    have XR : DefX P w K mg base 5 "reaches" ["standing"] (spBadSd K CD) := d_reachesX S24 XS
    have XH : DefX P w K mg base 6 "how_many" ["standing"] (spBadSd K CD) := d_howmanyX S26 B XR DP
    have X1 : DefX P w K mg base 6 "from_steps" ["standing", "steps"] (spBadFs K CD) := d_fromstepsX S28 B XR DC
    have X2 : DefX P w K mg base 6 "from_steps" ["standing", "steps"] (spBadFp K CD) := d_fromstepsP S28 B G9 DC
    have YD : DefX P w K mg base 6 "drives" ["wishes"] (spBadF K CW CM) := d_drivesX S14 XF D6
    have YP : DefX P w K mg base 6 "path" ["wishes"] (spBadF K CW CM) := d_pathX S15 XF D6
    have YT : DefX P w K mg base 6 "tree" ["wishes"] (spBadF K CW CM) := d_treeX S30 XF D6
    have YN : DefX P w K mg base 5 "turning" ["wishes"] (spBadTn K CW) := d_turningX S21 XB
    have YB : DefX P w K mg base 5 "turned" ["wishes", "by"] (spBadTd K CW) := d_turnedX S22 xCW NX.mw DG D4
    have Q0 := d_streetl (P := P) (w := w) (base := base) S35 (d_parkedX S10 X3) (d_takenX S11 X3) (d_offX S12 X3) (d_luckyX S13 X3) (d_ringX S20 X3) (d_writtenX S29 X3)
    have Q1 := d_askw (P := P) (w := w) (base := base) S36 B Q0 YB YD YT YP YN
    have Q2 := d_askm (P := P) (w := w) (base := base) S37 B G13 YD YT YP
    have Q3 := d_asko (P := P) (w := w) (base := base) S38 B G4 G12 G11 XR XH X1 X2
    have Q4 := d_told (P := P) (w := w) (base := base) S39 B NX ZCW ZCM ZCT ZCP ZCD Q1 Q2 Q3
    exact ok_law (P := P) (w := w) (base := base) FL B T J Q4 G1 G2 G3 G4 G5 G6 G7 G8 G9 G10 G11 G12 G13 G14
  have e := hfa.symm.trans (PySem.W.mg_of X G ad40)
  cases e
  refine ⟨PySem.W.fnOf "law" "law" (defArgs sLaw) (defBody sLaw) (defScope sLaw) .none kVd40 dcd40 pmd40 and40 cdd40 ctd40, fun s v => .of_eq rfl, ⟨_, hmd30⟩, fun base _ _ bm => ?_⟩
  exact LAW base bm
end Pr
/-! names kept, so that the head lays no second text of its trees (lemmas that grow with the square of the objects) -/
def PySem.W.Fast.tw17005188127574570691 : Unit := ()
def PySem.W.Fast.tw18295199574437847448 : Unit := ()
def PySem.W.Fast.tw15435166770209269049 : Unit := ()
def PySem.W.Fast.tw9651271176403716676 : Unit := ()
def PySem.W.Fast.tw14345449214747543450 : Unit := ()
def PySem.W.Fast.tw8411958201875581248 : Unit := ()
def PySem.W.Fast.tw2420488715794725275 : Unit := ()
def PySem.W.Fast.tw4712529523481488807 : Unit := ()
def PySem.W.Fast.tw2212837167131696917 : Unit := ()
def PySem.W.Fast.tw11203920846311811913 : Unit := ()
def PySem.W.Fast.tw11968222752090381978 : Unit := ()
def PySem.W.Fast.tw13181960965545542820 : Unit := ()
def PySem.W.Fast.tw3607307618972418439 : Unit := ()
def PySem.W.Fast.tw11797676862071957895 : Unit := ()
def PySem.W.Fast.tw13723915605017353284 : Unit := ()
def PySem.W.Fast.tw6359887174273550985 : Unit := ()
open PySem PySem.W PyProof.Rows
set_option maxRecDepth 100000 in
set_option maxHeartbeats 0 in
theorem PySem.Challenge.cw_parkrow_k12_refused_holds : PySem.Challenge.rw_parkrow_k12_refused.Holds := by
  w_on; o_law; k_head; (case hw => w_witness2)
  k_fill
  refine L2.walk_ofT (n := 63) (k := 9) (x := "_law_script") (CX := fun _ => L2.CX0) (sp := fun w => Pr.spLaw 343 _) (l := PySem.Challenge.rw_parkrow_k12_refused) rfl (by decide) rfl ⟨rfl, by decide, by decide⟩ (fun w h Y => L2.km_three (pt := 343) (by decide) (by decide) Y) ?F (fun _ _ a ns hl hT hS => ⟨a, ns, rfl, hS, hl, hT, fun _ => rfl⟩) (fun _ _ _ _ _ z => z)
  case F =>
    intro w mg fa h KX G hmg
    refine' Pr.all_mk KX G hmg ?ad0 ?ld0 ?cd0 ?kd0 ?ad1 ?ld1 ?cd1 ?kd1 ?ad2 ?ld2 ?cd2 ?kd2 ?ad3 ?ld3 ?cd3 ?kd3 ?ad4 ?ld4 ?cd4 ?kd4 ?ad5 ?ld5 ?cd5 ?kd5 ?ad6 ?ld6 ?cd6 ?kd6 ?ad7 ?ld7 ?cd7 ?kd7 ?ad8 ?ld8 ?cd8 ?kd8 ?ad9 ?ld9 ?cd9 ?kd9 ?ad10 ?ld10 ?cd10 ?kd10 ?ad11 ?ld11 ?cd11 ?kd11 ?ad12 ?ld12 ?cd12 ?kd12 ?ad13 ?ld13 ?cd13 ?kd13 ?ad14 ?ld14 ?cd14 ?kd14 ?ad15 ?ld15 ?cd15 ?kd15 ?ad16 ?ld16 ?cd16 ?kd16 ?ad17 ?ld17 ?cd17 ?kd17 ?ad18 ?ld18 ?cd18 ?kd18 ?ad19 ?ld19 ?cd19 ?kd19 ?ad20 ?ld20 ?cd20 ?kd20 ?ad21 ?ld21 ?cd21 ?kd21 ?ad22 ?ld22 ?cd22 ?kd22 ?ad23 ?ld23 ?cd23 ?kd23 ?ad24 ?ld24 ?cd24 ?kd24 ?ad25 ?ld25 ?cd25 ?kd25 ?ad26 ?ld26 ?cd26 ?kd26 ?ad27 ?ld27 ?cd27 ?kd27 ?ad28 ?ld28 ?cd28 ?kd28 ?ad29 ?ld29 ?cd29 ?kd29 ?ad30 ?ld30 ?cd30 ?kd30 ?hmd30 ?ad31 ?ld31 ?cd31 ?kd31 ?ad32 ?ld32 ?cd32 ?kd32 ?ad33 ?ld33 ?cd33 ?kd33 ?ad34 ?ld34 ?cd34 ?kd34 ?ad35 ?ld35 ?cd35 ?kd35 ?ad36 ?ld36 ?cd36 ?kd36 ?ad37 ?ld37 ?cd37 ?kd37 ?ad38 ?ld38 ?cd38 ?kd38 ?ad39 ?ld39 ?cd39 ?kd39 ?ad40 ?ld40 ?cd40 ?kd40 ?nocl ?taken ?nKA ?tyKA ?isKA ?nKP ?tyKP ?isKP ?aKP ?iKP ?lKP ?cKP ?kKP ?pgKP ?hdKP ?poKP ?saKP ?mkKP ?kcKP ?clKP ?moKP ?naKPwhere ?nKC ?tyKC ?isKC ?aKC ?iKC ?lKC ?cKC ?kKC ?pgKC ?hdKC ?poKC ?saKC ?mkKC ?kcKC ?clKC ?moKC ?naKCplace ?nCS ?tyCS ?isCS ?sbCS ?nCW ?tyCW ?isCW ?nCM ?tyCM ?isCM ?nCT ?tyCT ?isCT ?nCP ?tyCP ?isCP ?nCD ?tyCD ?isCD ?nCX ?tyCX ?isCX ?gaCW ?gnCW ?clCW ?moCW ?mbCW ?exCW ?kpCW ?svCW ?suCWCM ?neCWCM ?suCWCT ?neCWCT ?suCWCP ?neCWCP ?suCWCD ?neCWCD ?suCWCX ?neCWCX ?suCWCS ?gaCM ?gnCM ?clCM ?moCM ?mbCM ?exCM ?kpCM ?svCM ?suCMCW ?neCMCW ?suCMCT ?neCMCT ?suCMCP ?neCMCP ?suCMCD ?neCMCD ?suCMCX ?neCMCX ?suCMCS ?gaCT ?gnCT ?clCT ?moCT ?mbCT ?exCT ?kpCT ?svCT ?suCTCW ?neCTCW ?suCTCM ?neCTCM ?suCTCP ?neCTCP ?suCTCD ?neCTCD ?suCTCX ?neCTCX ?suCTCS ?gaCP ?gnCP ?clCP ?moCP ?mbCP ?exCP ?kpCP ?svCP ?suCPCW ?neCPCW ?suCPCM ?neCPCM ?suCPCT ?neCPCT ?suCPCD ?neCPCD ?suCPCX ?neCPCX ?suCPCS ?gaCD ?gnCD ?clCD ?moCD ?mbCD ?exCD ?kpCD ?svCD ?suCDCW ?neCDCW ?suCDCM ?neCDCM ?suCDCT ?neCDCT ?suCDCP ?neCDCP ?suCDCX ?neCDCX ?suCDCS ?zValueError ?coMOST_PLACES ?sib ?zisinstance ?zint ?zbool ?zlist ?zenumerate ?zsorted ?zrange ?zall ?zany ?zsum ?zmax ?zlen ?zzip ?zstr ?zset
    (case ad0 => k_is)
    (case ld0 => k_is)
    (case cd0 => k_is)
    (case kd0 => k_is)
    (case ad1 => k_is)
    (case ld1 => k_is)
    (case cd1 => k_is)
    (case kd1 => k_is)
    (case ad2 => k_is)
    (case ld2 => k_is)
    (case cd2 => k_is)
    (case kd2 => k_is)
    (case ad3 => k_is)
    (case ld3 => k_is)
    (case cd3 => k_is)
    (case kd3 => k_is)
    (case ad4 => k_is)
    (case ld4 => k_is)
    (case cd4 => k_is)
    (case kd4 => k_is)
    (case ad5 => k_is)
    (case ld5 => k_is)
    (case cd5 => k_is)
    (case kd5 => k_is)
    (case ad6 => k_is)
    (case ld6 => k_is)
    (case cd6 => k_is)
    (case kd6 => k_is)
    (case ad7 => k_is)
    (case ld7 => k_is)
    (case cd7 => k_is)
    (case kd7 => k_is)
    (case ad8 => k_is)
    (case ld8 => k_is)
    (case cd8 => k_is)
    (case kd8 => k_is)
    (case ad9 => k_is)
    (case ld9 => k_is)
    (case cd9 => k_is)
    (case kd9 => k_is)
    (case ad10 => k_is)
    (case ld10 => k_is)
    (case cd10 => k_is)
    (case kd10 => k_is)
    (case ad11 => k_is)
    (case ld11 => k_is)
    (case cd11 => k_is)
    (case kd11 => k_is)
    (case ad12 => k_is)
    (case ld12 => k_is)
    (case cd12 => k_is)
    (case kd12 => k_is)
    (case ad13 => k_is)
    (case ld13 => k_is)
    (case cd13 => k_is)
    (case kd13 => k_is)
    (case ad14 => k_is)
    (case ld14 => k_is)
    (case cd14 => k_is)
    (case kd14 => k_is)
    (case ad15 => k_is)
    (case ld15 => k_is)
    (case cd15 => k_is)
    (case kd15 => k_is)
    (case ad16 => k_is)
    (case ld16 => k_is)
    (case cd16 => k_is)
    (case kd16 => k_is)
    (case ad17 => k_is)
    (case ld17 => k_is)
    (case cd17 => k_is)
    (case kd17 => k_is)
    (case ad18 => k_is)
    (case ld18 => k_is)
    (case cd18 => k_is)
    (case kd18 => k_is)
    (case ad19 => k_is)
    (case ld19 => k_is)
    (case cd19 => k_is)
    (case kd19 => k_is)
    (case ad20 => k_is)
    (case ld20 => k_is)
    (case cd20 => k_is)
    (case kd20 => k_is)
    (case ad21 => k_is)
    (case ld21 => k_is)
    (case cd21 => k_is)
    (case kd21 => k_is)
    (case ad22 => k_is)
    (case ld22 => k_is)
    (case cd22 => k_is)
    (case kd22 => k_is)
    (case ad23 => k_is)
    (case ld23 => k_is)
    (case cd23 => k_is)
    (case kd23 => k_is)
    (case ad24 => k_is)
    (case ld24 => k_is)
    (case cd24 => k_is)
    (case kd24 => k_is)
    (case ad25 => k_is)
    (case ld25 => k_is)
    (case cd25 => k_is)
    (case kd25 => k_is)
    (case ad26 => k_is)
    (case ld26 => k_is)
    (case cd26 => k_is)
    (case kd26 => k_is)
    (case ad27 => k_is)
    (case ld27 => k_is)
    (case cd27 => k_is)
    (case kd27 => k_is)
    (case ad28 => k_is)
    (case ld28 => k_is)
    (case cd28 => k_is)
    (case kd28 => k_is)
    (case ad29 => k_is)
    (case ld29 => k_is)
    (case cd29 => k_is)
    (case kd29 => k_is)
    (case ad30 => k_is)
    (case ld30 => k_is)
    (case cd30 => k_is)
    (case kd30 => k_is)
    (case hmd30 => kernel_rfl)
    (case ad31 => k_is)
    (case ld31 => k_is)
    (case cd31 => k_is)
    (case kd31 => k_is)
    (case ad32 => k_is)
    (case ld32 => k_is)
    (case cd32 => k_is)
    (case kd32 => k_is)
    (case ad33 => k_is)
    (case ld33 => k_is)
    (case cd33 => k_is)
    (case kd33 => k_is)
    (case ad34 => k_is)
    (case ld34 => k_is)
    (case cd34 => k_is)
    (case kd34 => k_is)
    (case ad35 => k_is)
    (case ld35 => k_is)
    (case cd35 => k_is)
    (case kd35 => k_is)
    (case ad36 => k_is)
    (case ld36 => k_is)
    (case cd36 => k_is)
    (case kd36 => k_is)
    (case ad37 => k_is)
    (case ld37 => k_is)
    (case cd37 => k_is)
    (case kd37 => k_is)
    (case ad38 => k_is)
    (case ld38 => k_is)
    (case cd38 => k_is)
    (case kd38 => k_is)
    (case ad39 => k_is)
    (case ld39 => k_is)
    (case cd39 => k_is)
    (case kd39 => k_is)
    (case ad40 => k_is)
    (case ld40 => k_is)
    (case cd40 => k_is)
    (case kd40 => k_is)
    (case nocl => k_is)
    (case taken => k_is)
    (case nKA => k_is)
    (case tyKA => k_is)
    (case isKA => k_is)
    (case nKP => k_is)
    (case tyKP => k_is)
    (case isKP => k_is)
    (case aKP => k_is)
    (case iKP => k_is)
    (case lKP => k_is)
    (case cKP => k_is)
    (case kKP => k_is)
    (case pgKP => k_is)
    (case hdKP => k_is)
    (case poKP => k_is)
    (case saKP => k_is)
    (case mkKP => k_is)
    (case kcKP => k_is)
    (case clKP => k_is)
    (case moKP => k_is)
    (case naKPwhere => k_is)
    (case nKC => k_is)
    (case tyKC => k_is)
    (case isKC => k_is)
    (case aKC => k_is)
    (case iKC => k_is)
    (case lKC => k_is)
    (case cKC => k_is)
    (case kKC => k_is)
    (case pgKC => k_is)
    (case hdKC => k_is)
    (case poKC => k_is)
    (case saKC => k_is)
    (case mkKC => k_is)
    (case kcKC => k_is)
    (case clKC => k_is)
    (case moKC => k_is)
    (case naKCplace => k_is)
    (case nCS => k_is)
    (case tyCS => k_is)
    (case isCS => k_is)
    (case sbCS => k_is)
    (case nCW => k_is)
    (case tyCW => k_is)
    (case isCW => k_is)
    (case nCM => k_is)
    (case tyCM => k_is)
    (case isCM => k_is)
    (case nCT => k_is)
    (case tyCT => k_is)
    (case isCT => k_is)
    (case nCP => k_is)
    (case tyCP => k_is)
    (case isCP => k_is)
    (case nCD => k_is)
    (case tyCD => k_is)
    (case isCD => k_is)
    (case nCX => k_is)
    (case tyCX => k_is)
    (case isCX => k_is)
    (case gaCW => k_is)
    (case gnCW => k_is)
    (case clCW => k_is)
    (case moCW => k_is)
    (case mbCW => k_is)
    (case exCW => k_exc)
    (case kpCW => k_is)
    (case svCW => k_is)
    (case suCWCM => k_is)
    (case neCWCM => rfl)
    (case suCWCT => k_is)
    (case neCWCT => rfl)
    (case suCWCP => k_is)
    (case neCWCP => rfl)
    (case suCWCD => k_is)
    (case neCWCD => rfl)
    (case suCWCX => k_is)
    (case neCWCX => rfl)
    (case suCWCS => k_is)
    (case gaCM => k_is)
    (case gnCM => k_is)
    (case clCM => k_is)
    (case moCM => k_is)
    (case mbCM => k_is)
    (case exCM => k_exc)
    (case kpCM => k_is)
    (case svCM => k_is)
    (case suCMCW => k_is)
    (case neCMCW => rfl)
    (case suCMCT => k_is)
    (case neCMCT => rfl)
    (case suCMCP => k_is)
    (case neCMCP => rfl)
    (case suCMCD => k_is)
    (case neCMCD => rfl)
    (case suCMCX => k_is)
    (case neCMCX => rfl)
    (case suCMCS => k_is)
    (case gaCT => k_is)
    (case gnCT => k_is)
    (case clCT => k_is)
    (case moCT => k_is)
    (case mbCT => k_is)
    (case exCT => k_exc)
    (case kpCT => k_is)
    (case svCT => k_is)
    (case suCTCW => k_is)
    (case neCTCW => rfl)
    (case suCTCM => k_is)
    (case neCTCM => rfl)
    (case suCTCP => k_is)
    (case neCTCP => rfl)
    (case suCTCD => k_is)
    (case neCTCD => rfl)
    (case suCTCX => k_is)
    (case neCTCX => rfl)
    (case suCTCS => k_is)
    (case gaCP => k_is)
    (case gnCP => k_is)
    (case clCP => k_is)
    (case moCP => k_is)
    (case mbCP => k_is)
    (case exCP => k_exc)
    (case kpCP => k_is)
    (case svCP => k_is)
    (case suCPCW => k_is)
    (case neCPCW => rfl)
    (case suCPCM => k_is)
    (case neCPCM => rfl)
    (case suCPCT => k_is)
    (case neCPCT => rfl)
    (case suCPCD => k_is)
    (case neCPCD => rfl)
    (case suCPCX => k_is)
    (case neCPCX => rfl)
    (case suCPCS => k_is)
    (case gaCD => k_is)
    (case gnCD => k_is)
    (case clCD => k_is)
    (case moCD => k_is)
    (case mbCD => k_is)
    (case exCD => k_exc)
    (case kpCD => k_is)
    (case svCD => k_is)
    (case suCDCW => k_is)
    (case neCDCW => rfl)
    (case suCDCM => k_is)
    (case neCDCM => rfl)
    (case suCDCT => k_is)
    (case neCDCT => rfl)
    (case suCDCP => k_is)
    (case neCDCP => rfl)
    (case suCDCX => k_is)
    (case neCDCX => rfl)
    (case suCDCS => k_is)
    (case zValueError => k_is)
    (case coMOST_PLACES => k_is)
    (case sib => k_is)
    (case zisinstance => k_is)
    (case zint => k_is)
    (case zbool => k_is)
    (case zlist => k_is)
    (case zenumerate => k_is)
    (case zsorted => k_is)
    (case zrange => k_is)
    (case zall => k_is)
    (case zany => k_is)
    (case zsum => k_is)
    (case zmax => k_is)
    (case zlen => k_is)
    (case zzip => k_is)
    (case zstr => k_is)
    (case zset => k_is)
