import PyProof.Rows.All
import Wide.All
import OpenK.AllK
import Wide.FinOn
import PyProof.EqAt
import PyProof.EqKinds
import PyProof.TupleCall
import KE.BitLaws
import PySem.Challenge.RW_meanbits_k63_rows_pressed
set_option Elab.async false
set_option linter.all false
set_option maxRecDepth 100000
namespace L2
open PySem PySem.Spec PyProof.Rows

abbrev Key := Sum Int Str
def keyIs : Key → Value → Bool
  | .inl k, v => Value.isInt k v
  | .inr x, v => Value.isStrOf x v
def keyH (w : World) : Key → Int
  | .inl k => hashInt k
  | .inr x => hashStr w x
theorem keyIs_shape : ∀ {k : Key} {v : Value}, keyIs k v = true → (∃ i t, k = Sum.inl i ∧ v = Value.int i t) ∨ (∃ x t, k = Sum.inr x ∧ v = Value.str x t)
  | .inl i, v, h => by
    obtain ⟨t, e⟩ := Value.isInt_shape (k := i) (v := v) h
    exact .inl ⟨i, t, rfl, e⟩
  | .inr x, v, h => by
    obtain ⟨t, e⟩ := Value.isStrOf_shape (x := x) (v := v) h
    exact .inr ⟨x, t, rfl, e⟩
theorem keyIs_int (i : Int) (t : Tok) : keyIs (.inl i) (.int i t) = true := by simp [keyIs, Value.isInt]
theorem keyIs_str (x : Str) (t : Tok) : keyIs (.inr x) (.str x t) = true := by simp [keyIs, Value.isStrOf]
theorem key_ll (a b : Int) : decide ((Sum.inl a : Key) = Sum.inl b) = (a == b) := by
  by_cases e : a = b
  · subst e; simp
  · have h : ¬ (Sum.inl a : Key) = Sum.inl b := fun q => e (Sum.inl.inj q)
    rw [decide_eq_false h]
    exact (beq_eq_false_iff_ne.mpr e).symm
theorem key_rr (a b : Str) : decide ((Sum.inr a : Key) = Sum.inr b) = decide (a = b) := by
  by_cases e : a = b
  · subst e; simp
  · have h : ¬ (Sum.inr a : Key) = Sum.inr b := fun q => e (Sum.inr.inj q)
    rw [decide_eq_false h, decide_eq_false e]
theorem key_lr (a : Int) (b : Str) : decide ((Sum.inl a : Key) = Sum.inr b) = false := decide_eq_false (fun q => nomatch q)
theorem key_rl (a : Str) (b : Int) : decide ((Sum.inr a : Key) = Sum.inl b) = false := decide_eq_false (fun q => nomatch q)

def mixKind (prog : Program) (w : World) : PySem.KeyKind prog w Key where
  is := keyIs
  hash := keyH w
  inj := fun v a b ha hb => by
    rcases keyIs_shape ha with ⟨i, t, rfl, rfl⟩ | ⟨x, t, rfl, rfl⟩
    · rcases keyIs_shape hb with ⟨j, u, rfl, e⟩ | ⟨y, u, rfl, e⟩
      · injection e with e1 _; rw [e1]
      · exact nomatch e
    · rcases keyIs_shape hb with ⟨j, u, rfl, e⟩ | ⟨y, u, rfl, e⟩
      · exact nomatch e
      · injection e with e1 _; rw [e1]
  byValue := fun k v h => by
    rcases keyIs_shape h with ⟨i, t, rfl, rfl⟩ | ⟨x, t, rfl, rfl⟩ <;> rfl
  pyHash := fun hv h => by
    rcases keyIs_shape hv with ⟨i, t, rfl, rfl⟩ | ⟨x, t, rfl, rfl⟩
    · exact wpAny_pyHash_int h
    · exact wpAny_pyHash_str h
  eqBool := fun hu hv h => by
    rcases keyIs_shape hu with ⟨i, t, rfl, rfl⟩ | ⟨x, t, rfl, rfl⟩
    · rcases keyIs_shape hv with ⟨j, u, rfl, rfl⟩ | ⟨y, u, rfl, rfl⟩
      · rw [key_ll] at h; exact wpAny_eqBool_int h
      · rw [key_lr] at h; exact SeqAt.EqAt.int_str i t y u _ _ _ _ h
    · rcases keyIs_shape hv with ⟨j, u, rfl, rfl⟩ | ⟨y, u, rfl, rfl⟩
      · rw [key_rl] at h; exact SeqAt.EqAt.str_int x t j u _ _ _ _ h
      · rw [key_rr] at h; exact wpAny_eqBool_str h
  «strs» := fun k x t v h => by
    rcases keyIs_shape h with ⟨i, u, rfl, e⟩ | ⟨y, u, rfl, e⟩
    · exact nomatch e
    · injection e with e1 _
      subst e1
      cases v <;> rfl

theorem mixKind_int (prog : Program) (w : World) (i : Int) (t : Tok) : (mixKind prog w).is (.inl i) (.int i t) = true := keyIs_int i t
theorem mixKind_str (prog : Program) (w : World) (x : Str) (t : Tok) : (mixKind prog w).is (.inr x) (.str x t) = true := keyIs_str x t
end L2

namespace L2
open PySem PySem.Spec PyProof.Rows

inductive V where
  | non | bl (b : Bool) | int (i : Int) | str (x : Str) | byt (b : Array UInt8) | flt (b : UInt64) | ref (a : Addr) | ty (n : String)
  deriving DecidableEq

def RelV : V → Value → Prop
  | .non, u => u = Value.none
  | .bl b, u => u = Value.bool b
  | .int i, u => ∃ t, u = Value.int i t
  | .str x, u => ∃ t, u = Value.str x t
  | .byt b, u => ∃ t, u = Value.bytes b t
  | .flt b, u => ∃ t, u = Value.float b t
  | .ref a, u => u = Value.ref a
  | .ty n, u => u = Value.type n

abbrev Vals : List V → List Value → Prop := Paired RelV
theorem Vals.length {xs : List V} {us : List Value} (r : Vals xs us) : xs.length = us.length := Paired.length r
theorem Vals.get : ∀ {xs : List V} {us : List Value} {i : Nat} {x : V}, Vals xs us → xs[i]? = some x → ∃ u, us[i]? = some u ∧ RelV x u
  | _, _, _, _, .nil, e => by simp at e
  | _, _, 0, _, .cons r _, e => by simp at e; subst e; exact ⟨_, rfl, r⟩
  | _, _, i + 1, x, .cons _ t, e => by
    obtain ⟨u, h1, h2⟩ := Vals.get (i := i) (x := x) t (by simpa using e)
    exact ⟨u, by simpa using h1, h2⟩
theorem Vals.set {x : V} {u : Value} (r : RelV x u) : ∀ {xs : List V} {us : List Value} (i : Nat), Vals xs us → Vals (xs.set i x) (us.set i u)
  | _, _, _, .nil => .nil
  | _, _, 0, .cons _ t => .cons r t
  | _, _, i + 1, .cons q t => .cons q (Vals.set r i t)
theorem Vals.append : ∀ {xs ys : List V} {us ws : List Value}, Vals xs us → Vals ys ws → Vals (xs ++ ys) (us ++ ws)
  | _, _, _, _, .nil, s => s
  | _, _, _, _, .cons r t, s => .cons r (Vals.append t s)
theorem Vals.take : ∀ {xs : List V} {us : List Value} (n : Nat), Vals xs us → Vals (xs.take n) (us.take n)
  | _, _, 0, _ => .nil
  | _, _, _ + 1, .nil => .nil
  | _, _, n + 1, .cons r t => .cons r (Vals.take n t)
theorem Vals.drop : ∀ {xs : List V} {us : List Value} (n : Nat), Vals xs us → Vals (xs.drop n) (us.drop n)
  | _, _, 0, r => r
  | _, _, _ + 1, .nil => .nil
  | _, _, n + 1, .cons _ t => Vals.drop n t
def RelO : Option V → Option Value → Prop
  | some v, some u => RelV v u
  | none, none => True
  | _, _ => False
def KV {κ : Type} : List (κ × V) → List (κ × Value) → Prop := Paired fun (p : κ × V) (q : κ × Value) => p.1 = q.1 ∧ RelV p.2 q.2

def kV : Key → V
  | .inl i => .int i
  | .inr x => .str x

inductive HO where
  /-- a list -/
  | lst (xs : List V)
  /-- a tuple (never changes) -/
  | tup (xs : List V)
  /-- a dict whose keys are ints and texts; one whose keys are tuples of ints and texts (the empty one is both) -/
  | dK (kvs : List (Key × V)) | dT (kvs : List (List Key × V))
  /-- a set of ints: its members, its size -/
  | set (S : Int → Bool) (n : Nat)
  /-- an instance of the class at C, its dict at dx, its attributes -/
  | ins (C dx : Addr) (fs : List (Str × V))
  /-- the dict of the instance at x -/
  | own (x : Addr)
  /-- the dict of an exception -/
  | xd (fs : List (Str × V))
  /-- a bound method, f of x -/
  | met (f x : Addr)
  /-- a range object lo, lo + 1, .. below hi -/
  | rng (lo hi : Int)
  /-- a thing that is known to the object (the script; a dict while a loop walks it): read, never written while it is so -/
  | frz (o : Obj) (u : HO)
  /-- a code object's table -/
  | tbl (ps : Array Value)
  /-- any other thing, by what is true of its one object (a def of one's own: SetO a S n := HO.ext fun h => ..) -/
  | ext (φ : Heap → Prop)

abbrev Hp := Addr → Option HO
def upd (H : Hp) (a : Addr) (o : HO) : Hp := fun b => if b = a then some o else H b
theorem upd_same {H : Hp} {a : Addr} {o : HO} : upd H a o a = some o := by unfold upd; rw [if_pos rfl]
theorem upd_ne {H : Hp} {a b : Addr} {o : HO} (h : b ≠ a) : upd H a o b = H b := by unfold upd; rw [if_neg h]
theorem ne_of {H : Hp} {a b : Addr} {o u : HO} (h : H a = some o) (h' : H b = some u) (d : o ≠ u) : a ≠ b := by
  intro e; subst e; rw [h] at h'; exact d (Option.some.inj h')
theorem ne_of_none {H : Hp} {a b : Addr} {o : HO} (h : H a = some o) (h' : H b = none) : a ≠ b := by
  intro e; subst e; rw [h] at h'; cases h'

section
variable (P : Program) (w : World)
def ObjOk (H : Hp) (h : Heap) (a : Addr) : HO → Prop
  | .lst xs => xs.length ≤ sizeLine ∧ ∃ (its : List Value) (n : Nat), Vals xs its ∧ h.get? a = some { cls := .type "list", data := .seq its.toArray n }
  | .tup xs => xs.length ≤ sizeLine ∧ ∃ its : List Value, Vals xs its ∧ IsTup h a its.toArray
  | .dK kvs => kvs.length ≤ sizeLine ∧ (a == sysModules) = false ∧ ∃ vs, KV kvs vs ∧ h.DictOf (mixKind P w) a vs
  | .dT kvs => kvs.length ≤ sizeLine ∧ (a == sysModules) = false ∧ ∃ xs : List (List Key × Addr × Value),
      Paired (fun (p : List Key × V) (q : List Key × Addr × Value) => p.1 = q.1 ∧ H q.2.1 = some (.tup (p.1.map kV)) ∧ RelV p.2 q.2.2) kvs xs ∧
      ∃ o es ep, h.get? a = some o ∧ o.ExactDict ∧ o.data = .dict es ep ∧ es.toList = xs.map (entryOfKey (tupleKind (mixKind P w))) ∧ (xs.map (·.1)).Nodup
  | .set S n => h.SetOf (intKind P w) a S n
  | .ins C dx fs => H dx = some (.own a) ∧ fs.length ≤ 1000 ∧ dx ≠ a ∧ h.get? a = some (PySem.W.instObj C dx) ∧
      ∃ mA, h.Ns1 dx mA ∧ (∀ f, RelO (fs.lookup f) (mA f)) ∧ PySem.Within mA (fs.map (·.1))
  | .own _ => ∃ o, h.get? a = some o
  | .xd fs => ∃ mA, h.Ns1 a mA ∧ ∀ f, RelO (fs.lookup f) (mA f)
  | .rng lo hi => ∃ t u v, h.get? a = some { cls := .type "range", data := .fields #[.int lo t, .int hi u, .int 1 v] }
  | .frz o u => h.get? a = some o ∧ ObjOk H h a u
  | .tbl ps => h.get? a = some { cls := .none, data := .fields ps }
  | .met f x => h.get? a = some (PySem.W.methodObj (.ref f) (.ref x))
  | .ext φ => φ h ∧ (∃ o, h.get? a = some o) ∧ ∀ h1 h2 : Heap, φ h1 → (∀ o, h1.get? a = some o → h2.get? a = some o) → φ h2
def HOk (H : Hp) (h : Heap) : Prop := ∀ a o, H a = some o → ObjOk P w H h a o
end

section
variable {P : Program} {w : World} {H H' : Hp} {h h' : Heap} {a : Addr} {o : HO}
theorem ObjOk.lt (x : ObjOk P w H h a o) : a < h.objs.size := by
  cases o with
  | lst xs => obtain ⟨_, _, _, _, e⟩ := x; exact Heap.lt_size e
  | tup xs => obtain ⟨_, _, _, p⟩ := x; exact p.lt
  | dK kvs => obtain ⟨_, _, _, _, o, _, _, e, _⟩ := x; exact Heap.lt_size e
  | dT kvs => obtain ⟨_, _, _, _, o, _, _, e, _⟩ := x; exact Heap.lt_size e
  | set S n => obtain ⟨o, _, _, _, e, _⟩ := x; exact Heap.lt_size e
  | ins C dx fs => obtain ⟨_, _, _, e, _⟩ := x; exact Heap.lt_size e
  | own y => obtain ⟨_, e⟩ := x; exact Heap.lt_size e
  | xd fs => obtain ⟨_, ⟨_, _, _, e, _⟩, _⟩ := x; exact Heap.lt_size e
  | rng lo hi => obtain ⟨_, _, _, e⟩ := x; exact Heap.lt_size e
  | frz ob u => obtain ⟨e, _⟩ := x; exact Heap.lt_size e
  | tbl ps => exact Heap.lt_size (show h.get? a = some _ from x)
  | met f y => exact Heap.lt_size (show h.get? a = some _ from x)
  | ext φ => obtain ⟨_, ⟨_, e⟩, _⟩ := x; exact Heap.lt_size e
theorem Paired.mapP {α β : Type} {F G : α → β → Prop} : ∀ {l₁ : List α} {l₂ : List β}, Paired F l₁ l₂ → (∀ a b, F a b → G a b) → Paired G l₁ l₂
  | _, _, .nil, _ => .nil
  | _, _, .cons r t, f => .cons (f _ _ r) (Paired.mapP t f)
theorem ObjOk.stay (x : ObjOk P w H h a o) (k : ∀ b u, (b = a ∨ H b = some (.own a)) → h.get? b = some u → h'.get? b = some u)
    (ho : ∀ b, H b = some (.own a) → H' b = some (.own a)) (ht : ∀ b xs, H b = some (.tup xs) → H' b = some (.tup xs)) : ObjOk P w H' h' a o := by
  induction o with
  | lst xs => obtain ⟨z, its, n, r, e⟩ := x; exact ⟨z, its, n, r, k _ _ (.inl rfl) e⟩
  | tup xs => obtain ⟨z, its, r, ob, e, c⟩ := x; exact ⟨z, its, r, ob, k _ _ (.inl rfl) e, c⟩
  | dK kvs => obtain ⟨z, y, vs, r, ob, es, ep, e, c⟩ := x; exact ⟨z, y, vs, r, ob, es, ep, k _ _ (.inl rfl) e, c⟩
  | dT kvs =>
    obtain ⟨z, y, xs, r, ob, es, ep, e, c⟩ := x
    exact ⟨z, y, xs, Paired.mapP r fun p q z => ⟨z.1, ht _ _ z.2.1, z.2.2⟩, ob, es, ep, k _ _ (.inl rfl) e, c⟩
  | set S n => obtain ⟨ob, es, ep, t, e, c⟩ := x; exact ⟨ob, es, ep, t, k _ _ (.inl rfl) e, c⟩
  | ins C dx fs =>
    obtain ⟨d, z, ne, e, mA, ⟨od, es, ep, e2, c⟩, r⟩ := x
    exact ⟨ho _ d, z, ne, k _ _ (.inl rfl) e, mA, ⟨od, es, ep, k _ _ (.inr d) e2, c⟩, r⟩
  | own y => obtain ⟨ob, e⟩ := x; exact ⟨ob, k _ _ (.inl rfl) e⟩
  | xd fs => obtain ⟨mA, ⟨od, es, ep, e, c⟩, r⟩ := x; exact ⟨mA, ⟨od, es, ep, k _ _ (.inl rfl) e, c⟩, r⟩
  | rng lo hi => obtain ⟨t, u, v, e⟩ := x; exact ⟨t, u, v, k _ _ (.inl rfl) e⟩
  | frz ob u ih => obtain ⟨e, q⟩ := x; exact ⟨k _ _ (.inl rfl) e, ih q⟩
  | tbl ps =>
    have e : h.get? a = some { cls := .none, data := .fields ps } := x
    show h'.get? a = some { cls := .none, data := .fields ps }
    exact k a _ (.inl rfl) e
  | met f y =>
    have e : h.get? a = some (PySem.W.methodObj (.ref f) (.ref y)) := x
    show h'.get? a = some (PySem.W.methodObj (.ref f) (.ref y))
    exact k a _ (.inl rfl) e
  | ext φ => obtain ⟨p, ⟨o, e⟩, st⟩ := x; exact ⟨st _ _ p fun o q => k _ _ (.inl rfl) q, ⟨o, k _ _ (.inl rfl) e⟩, st⟩
theorem HOk.lt (x : HOk P w H h) (e : H a = some o) : a < h.objs.size := (x a o e).lt
theorem HOk.fresh (x : HOk P w H h) (e : h.objs.size ≤ a) : H a = none := by
  cases q : H a with
  | none => rfl
  | some u => exact absurd (Nat.lt_of_lt_of_le (x.lt q) e) (Nat.lt_irrefl _)
theorem HOk.kept (x : HOk P w H h) (k : ∀ b u, h.get? b = some u → h'.get? b = some u) : HOk P w H h' := fun a o e =>
  (x a o e).stay (fun b u _ q => k b u q) (fun _ q => q) fun _ _ q => q
theorem HOk.laid (x : HOk P w H h) (k : ∀ b u, h.get? b = some u → h'.get? b = some u) (hp : h.objs.size ≤ a) (new : ObjOk P w (upd H a o) h' a o) : HOk P w (upd H a o) h' := fun b u e => by
  have hn := x.fresh hp
  by_cases hb : b = a
  · subst hb; rw [upd_same] at e; cases e; exact new
  · rw [upd_ne hb] at e
    exact (x b u e).stay (fun c v _ q => k c v q) (fun c q => by rw [upd_ne (ne_of_none q hn)]; exact q) fun c xs q => by rw [upd_ne (ne_of_none q hn)]; exact q
end

def Rd (H : Hp) (a : Addr) (u : HO) : Prop := H a = some u ∨ ∃ o, H a = some (.frz o u)
theorem Rd.of {H : Hp} {a : Addr} {u : HO} (h : H a = some u) : Rd H a u := .inl h
theorem Rd.ok {P : Program} {w : World} {H : Hp} {h : Heap} {a : Addr} {u : HO} (r : Rd H a u) (x : HOk P w H h) : ObjOk P w H h a u := by
  rcases r with r | ⟨o, r⟩
  · exact x a u r
  · obtain ⟨_, q⟩ := x a _ r
    exact q
def Mut : Option HO → Prop
  | some (.lst _) => True
  | some (.dK _) => True
  | some (.dT _) => True
  | some (.set _ _) => True
  | some (.ins _ _ _) => True
  | some (.ext _) => True
  | _ => False
section
variable {P : Program} {w : World} {H : Hp} {h h' : Heap} {x e : Addr} {o' : HO}
theorem HOk.write (ok : HOk P w H h) (mu : Mut (H x)) (he : e = x ∨ H e = some (.own x)) (k : ∀ b u, b ≠ e → h.get? b = some u → h'.get? b = some u) (heo : ∃ u, h'.get? e = some u)
    (new : ObjOk P w (upd H x o') h' x o') : HOk P w (upd H x o') h' := fun b u q => by
  have nown : ∀ c y, H c = some (.own y) → c ≠ x := fun c y r z => by subst z; rw [r] at mu; exact mu
  have ntup : ∀ c xs, H c = some (.tup xs) → c ≠ x := fun c xs r z => by subst z; rw [r] at mu; exact mu
  by_cases hb : b = x
  · subst hb; rw [upd_same] at q; cases q; exact new
  · rw [upd_ne hb] at q
    by_cases hbe : b = e
    · have q' : H b = some (.own x) := by
        rcases he with z | z
        · exact absurd (hbe.trans z) hb
        · rw [hbe]; exact z
      rw [q] at q'; cases q'
      obtain ⟨v, hv⟩ := heo
      exact ⟨v, by rw [hbe]; exact hv⟩
    · refine (ok b u q).stay (fun c v hc r => k c v ?_ r) (fun c r => by rw [upd_ne (nown c b r)]; exact r) fun c xs r => by rw [upd_ne (ntup c xs r)]; exact r
      rcases hc with rfl | hc
      · exact hbe
      · rintro rfl
        rcases he with z | z
        · exact nown c b hc z
        · rw [hc] at z; cases z; exact hb rfl
end

structure Un (fs ex : List Addr) (H H' : Hp) (h h' : Heap) : Prop where
  keep : ∀ b o, h.get? b = some o → H b = none → b ∉ fs → b ∉ ex → h'.get? b = some o
  slot : ∀ b o, h.get? b = some o → H b = none → b ∈ fs → b ∉ ex → ∃ sl, h'.get? b = some { o with slots := sl }
  free : ∀ b o, h.get? b = some o → H b = none → b ∉ ex → H' b = none
  there : ∀ b o, h.get? b = some o → b ∉ ex → ∃ o', h'.get? b = some o'
  tups : ∀ b xs, H b = some (.tup xs) → H' b = some (.tup xs)
  frzs : ∀ b o u, H b = some (.frz o u) → H' b = some (.frz o u)
  tbls : ∀ b ps, H b = some (.tbl ps) → ∃ more, H' b = some (.tbl (ps ++ more))
section
variable {fs fs' ex ex' : List Addr} {H H1 H2 : Hp} {h h1 h2 h' : Heap} {a x e : Addr} {o : HO}
theorem Un.any (u : Un fs ex H H1 h h1) {b : Addr} {ob : Obj} (q : h.get? b = some ob) (n : H b = none) (hx : b ∉ ex) : ∃ sl, h1.get? b = some { ob with slots := sl } := by
  by_cases hb : b ∈ fs
  · exact u.slot b ob q n hb hx
  · exact ⟨ob.slots, u.keep b ob q n hb hx⟩
theorem Un.trans (a : Un fs ex H H1 h h1) (b : Un fs ex H1 H2 h1 h2) : Un fs ex H H2 h h2 where
  keep := fun c ob q n hc hx => b.keep c ob (a.keep c ob q n hc hx) (a.free c ob q n hx) hc hx
  slot := fun c ob q n hc hx => by
    obtain ⟨sl, e1⟩ := a.slot c ob q n hc hx
    obtain ⟨sl', e2⟩ := b.slot c _ e1 (a.free c ob q n hx) hc hx
    exact ⟨sl', e2⟩
  free := fun c ob q n hx => by
    obtain ⟨o', e1⟩ := a.there c ob q hx
    exact b.free c o' e1 (a.free c ob q n hx) hx
  there := fun c ob q hx => by
    obtain ⟨o', e1⟩ := a.there c ob q hx
    exact b.there c o' e1 hx
  tups := fun c xs q => b.tups c xs (a.tups c xs q)
  frzs := fun c ob xs q => b.frzs c ob xs (a.frzs c ob xs q)
  tbls := fun c ps q => by
    obtain ⟨m1, e1⟩ := a.tbls c ps q
    obtain ⟨m2, e2⟩ := b.tbls c _ e1
    exact ⟨m1 ++ m2, by rw [e2, Array.append_assoc]⟩
theorem Un.kept (k : ∀ b u, h.get? b = some u → h'.get? b = some u) : Un fs ex H H h h' :=
  ⟨fun b ob q _ _ _ => k b ob q, fun b ob q _ _ _ => ⟨ob.slots, k b ob q⟩, fun _ _ _ n _ => n, fun b ob q _ => ⟨ob, k b ob q⟩, fun _ _ q => q, fun _ _ _ q => q, fun _ ps q => ⟨#[], by rw [q]; simp⟩⟩
theorem Un.refl : Un fs ex H H h h := Un.kept fun _ _ q => q
theorem Un.laid (k : ∀ b u, h.get? b = some u → h'.get? b = some u) (hp : h.objs.size ≤ a) (hn : H a = none) : Un fs ex H (upd H a o) h h' where
  keep := fun b u q _ _ _ => k b u q
  slot := fun b u q _ _ _ => ⟨u.slots, k b u q⟩
  free := fun b u q n _ => by rw [upd_ne (Nat.ne_of_lt (Nat.lt_of_lt_of_le (Heap.lt_size q) hp))]; exact n
  there := fun b u q _ => ⟨u, k b u q⟩
  tups := fun b xs q => by rw [upd_ne (ne_of_none q hn)]; exact q
  frzs := fun b u xs q => by rw [upd_ne (ne_of_none q hn)]; exact q
  tbls := fun b ps q => ⟨#[], by rw [upd_ne (ne_of_none q hn), q]; simp⟩
theorem Un.write (mu : Mut (H x)) (he : e = x ∨ H e = some (.own x)) (k : ∀ b u, b ≠ e → h.get? b = some u → h'.get? b = some u) (heo : ∃ u, h'.get? e = some u) : Un fs ex H (upd H x o) h h' := by
  have hx : ∀ b, H b = none → b ≠ x := fun b n z => by subst z; rw [n] at mu; exact mu
  have hb : ∀ b, H b = none → b ≠ e := fun b n z => by
    subst z
    rcases he with r | r
    · exact hx b n r
    · rw [n] at r; cases r
  have hm : ∀ b u, H b = some u → ¬ Mut (some u) → b ≠ x := fun b u q nm z => by subst z; rw [q] at mu; exact nm mu
  refine ⟨fun b u q n _ _ => k b u (hb b n) q, fun b u q n _ _ => ⟨u.slots, k b u (hb b n) q⟩, fun b u q n _ => by rw [upd_ne (hx b n)]; exact n, fun b u q _ => ?_,
    fun b xs q => by rw [upd_ne (hm b _ q fun z => z)]; exact q, fun b u xs q => by rw [upd_ne (hm b _ q fun z => z)]; exact q, fun b ps q => ⟨#[], by rw [upd_ne (hm b _ q fun z => z), q]; simp⟩⟩
  by_cases hbe : b = e
  · subst hbe; exact heo
  · exact ⟨u, k b u hbe q⟩
theorem Un.mono (u : Un fs ex H H1 h h1) (hs : ∀ b ∈ fs, b ∈ fs') (hx : ∀ b ∈ ex, b ∈ ex') : Un fs' ex' H H1 h h1 :=
  ⟨fun b ob q n hb he => u.keep b ob q n (fun z => hb (hs b z)) fun z => he (hx b z), fun _ _ q n _ he => u.any q n fun z => he (hx _ z), fun b ob q n he => u.free b ob q n fun z => he (hx b z), fun b ob q he => u.there b ob q fun z => he (hx b z), u.tups, u.frzs, u.tbls⟩
end

def trk (h : Heap) (H : Hp) : List Addr := (List.range h.objs.size).filter fun a => (H a).isSome
def hidT (h : Heap) (H : Hp) : Heap := PySem.W.hideAll h (trk h H)
theorem hidT_size (h : Heap) (H : Hp) : (hidT h H).objs.size = h.objs.size := PySem.W.hideAll_size _ _
theorem hidT_get {h : Heap} {H : Hp} {b : Addr} {o : Obj} (e : h.get? b = some o) (n : H b = none) : (hidT h H).get? b = some o :=
  PySem.W.hideAll_get _ e fun hm => by
    have q : (H b).isSome = true := (List.mem_filter.mp hm).2
    rw [n] at q; simp at q
theorem of_hidT {h : Heap} {H : Hp} {b : Addr} {o : Obj} (e : (hidT h H).get? b = some o) : h.get? b = some o ∧ H b = none := by
  have e' : h.get? b = some o := PySem.W.of_hideAll (trk h H) e
  refine ⟨e', ?_⟩
  cases q : H b with
  | none => rfl
  | some x =>
    have hm : b ∈ trk h H := List.mem_filter.mpr ⟨List.mem_range.mpr (Heap.lt_size e'), by simp [q]⟩
    have z : (hidT h H).get? b = none := PySem.W.hideAll_none (trk h H) hm
    rw [z] at e; cases e

def allNews (g h : Heap) (L : Addr) : List (Addr × Obj) := (List.range h.objs.size).filterMap fun a => if a = L ∨ (g.get? a).isSome = true then none else (h.get? a).map fun o => (a, o)
def rest (g h : Heap) (L d : Addr) : List (Addr × Obj) := (allNews g h L).filter fun p => decide (p.1 ≠ d)
end L2

namespace L2
open PySem PySem.Spec PyProof.Rows

structure Mod (K : PySem.W.Frag) (mg : Str → Option Value) (base : Heap) : Prop where
  kin : K.In base
  glob : base.Ns mainGlobals mg
  blt : ∃ mb, base.Ns builtinsNs mb ∧ ∀ x : Str, x ≠ "__name__" → mb x = bootBuiltins x
  nolimit : base.NoLimit

structure Cx where
  prog : Program
  w : World
  K : PySem.W.Frag
  mg : Str → Option Value
  base : Heap
  A : Around
  N : List Str
  s_0 : Shared
  H_0 : Hp
  env : Env
  outer : List Env
  stack : List Env
  ex : List Addr
  fn : Str → Bool
  calm : Bool
  pn : List (Addr × Obj)
  xe : Value → Shared → Prop
def frs (l : List Env) : List Addr := l.filterMap (·.frame)
abbrev Cx.fs (X : Cx) : List Addr := frs X.outer

def Vis (sc : Scope) (x : Str) : Prop := sc.names.lookup x = some .local ∨ sc.names.lookup x = some .cell ∨ sc.names.lookup x = some .free
def Loc (sc : Scope) (x : Str) : Prop := sc.names.lookup x = some .local ∨ sc.names.lookup x = some .cell
def Look (env : Env) (h : Heap) (m : Str → Option Value) (x : Str) (u : Value) : Prop :=
  (env.kindOf x = some .local ∧ m x = some u) ∨ ((env.kindOf x = some .cell ∨ env.kindOf x = some .free) ∧ ∃ c, env.cells.lookup x = some c ∧ h.IsCell c (some u))

structure Cx.Ok (X : Cx) : Prop where
  mod : Mod X.K X.mg X.base
  kind : X.env.scope.kind = .function
  glob : X.env.globals = mainGlobals
  blt : X.env.builtins = builtinsNs
  above : X.s_0.heap.objs.size ≤ X.env.locals
  inj : ∀ x y c, X.env.cells.lookup x = some c → X.env.cells.lookup y = some c → x = y
  has : ∀ x, (X.env.kindOf x = some .cell ∨ X.env.kindOf x = some .free) → ∃ c, X.env.cells.lookup x = some c
  cab : ∀ x c, X.fn x = true → X.env.cells.lookup x = some c → X.s_0.heap.objs.size ≤ c
  hd : X.calm = true → X.A.handled = none
  frames : X.A.frames = some X.stack
  stk : X.stack = X.outer ∨ (X.stack = X.env :: X.outer ∧ X.env.frame = some X.env.locals)
  exf : ∀ b ∈ X.ex, b ≠ X.env.locals ∧ ∀ x c, X.env.cells.lookup x = some c → c ≠ b
  bs : ∀ b o, X.base.get? b = some o → X.s_0.heap.get? b = some o ∧ X.H_0 b = none
  bsz : X.base.objs.size ≤ X.s_0.heap.objs.size
  noex : ∀ b o, X.base.get? b = some o → b ∉ X.ex
  exfs : ∀ b ∈ X.ex, b ∉ X.fs
  funs : X.s_0.heap.FunFrames X.base X.outer
  frf : ∀ b ∈ X.fs, X.H_0 b = none

structure Inv (X : Cx) (pins : List (Addr × Obj)) (σ : List (Option V)) (H : Hp) (s : Shared) : Prop where
  ok : X.Ok
  os : s.os = X.s_0.os
  bare : AllBare s.gens
  base : Un X.fs X.ex X.H_0 H X.s_0.heap s.heap
  loc : ∃ m, s.heap.Ns X.env.locals m ∧ ∀ (i : Nat) (x : Str) (v : V), X.N[i]? = some x → σ[i]? = some (some v) → Vis X.env.scope x → ∃ u, RelV v u ∧ Look X.env s.heap m x u
  cell : ∀ x c, X.env.cells.lookup x = some c → ∃ v, s.heap.IsCell c v
  free : H X.env.locals = none
  freeC : ∀ x c, X.env.cells.lookup x = some c → H c = none
  pin : ∀ p ∈ X.pn ++ pins, s.heap.get? p.1 = some p.2 ∧ H p.1 = none ∧ p.1 ≠ X.env.locals ∧ p.1 ∉ X.fs ∧ ∀ v, p.2.data ≠ .cell v
  hok : HOk X.prog X.w H s.heap
  len : σ.length = X.N.length

section
variable {X : Cx} {pins : List (Addr × Obj)} {σ : List (Option V)} {H H' : Hp} {s : Shared} {h' : Heap}

theorem Cx.Ok.nofr (ok : X.Ok) {b : Addr} {o : Obj} (e : X.base.get? b = some o) : b ∉ X.fs := fun hb => by
  have := (ok.funs.mem hb).1
  rw [e] at this; cases this
theorem Inv.bs (I : Inv X pins σ H s) : ∀ b o, X.base.get? b = some o → s.heap.get? b = some o ∧ H b = none := fun b o e =>
  ⟨I.base.keep b o (I.ok.bs b o e).1 (I.ok.bs b o e).2 (I.ok.nofr e) (I.ok.noex b o e), I.base.free b o (I.ok.bs b o e).1 (I.ok.bs b o e).2 (I.ok.noex b o e)⟩
theorem Inv.bk (I : Inv X pins σ H s) : ∀ b o, X.base.get? b = some o → s.heap.get? b = some o := fun b o e => (I.bs b o e).1
theorem Inv.mod (I : Inv X pins σ H s) : Mod X.K X.mg X.base := I.ok.mod
theorem Inv.kIn (I : Inv X pins σ H s) : X.K.In s.heap := I.ok.mod.kin.keeps I.bk
theorem Inv.nolimit (I : Inv X pins σ H s) : s.heap.NoLimit := I.ok.mod.nolimit.keeps I.bk
theorem Inv.lt (I : Inv X pins σ H s) : X.env.locals < s.heap.objs.size := let ⟨_, hn, _⟩ := I.loc; hn.lt
theorem Inv.sz (I : Inv X pins σ H s) : X.s_0.heap.objs.size ≤ s.heap.objs.size := Nat.le_trans I.ok.above (Nat.le_of_lt I.lt)
theorem Inv.nofs (I : Inv X pins σ H s) {a : Addr} (h : s.heap.objs.size ≤ a) : a ∉ X.fs := fun hb => by
  obtain ⟨_, o, ho, _⟩ := I.ok.funs.mem hb
  exact absurd (Nat.lt_of_lt_of_le (Heap.lt_size ho) (Nat.le_trans I.sz h)) (Nat.lt_irrefl _)
theorem Inv.cne (I : Inv X pins σ H s) : ∀ x c, X.env.cells.lookup x = some c → c ≠ X.env.locals := fun x c e z => by
  obtain ⟨v, o, ho, hd⟩ := I.cell x c e
  obtain ⟨m, ⟨o', es, ep, ho', hd', _⟩, _⟩ := I.loc
  rw [z, ho'] at ho; cases ho; rw [hd'] at hd; cases hd
theorem Inv.funs (I : Inv X pins σ H s) : s.heap.FunFrames X.base X.outer := by
  have all : ∀ (l : List Env), (∀ b ∈ frs l, b ∈ X.fs) → X.s_0.heap.FunFrames X.base l → s.heap.FunFrames X.base l := by
    intro l
    induction l with
    | nil => intro _ _; trivial
    | cons env r ih =>
      intro hs hl
      obtain ⟨hk, ⟨L, o, hf, hn, ho, hd⟩, hr⟩ := hl
      have hL : L ∈ X.fs := hs L (by unfold frs; rw [List.filterMap_cons, hf]; exact List.mem_cons_self)
      obtain ⟨sl, e⟩ := I.base.slot L o ho (I.ok.frf L hL) hL fun z => I.ok.exfs L z hL
      exact ⟨hk, ⟨L, _, hf, hn, e, hd⟩, ih (fun b hb => hs b (by unfold frs; rw [List.filterMap_cons, hf]; exact List.mem_cons_of_mem _ hb)) hr⟩
  exact all X.outer (fun _ hb => hb) I.ok.funs

theorem Inv.stack (I : Inv X pins σ H s) : s.heap.FunFrames X.base X.stack := by
  rcases I.ok.stk with e | ⟨e, hf⟩
  · rw [e]; exact I.funs
  · rw [e]
    obtain ⟨m, hn, _⟩ := I.loc
    refine .cons (by rw [I.ok.kind]; decide) hf hn ?_ I.funs
    exact Heap.get?_none_of_le (Nat.le_trans I.ok.bsz I.ok.above)
theorem Inv.stkSub (I : Inv X pins σ H s) : ∀ b ∈ frs X.stack, b ∈ X.env.locals :: X.fs := fun b hb => by
  rcases I.ok.stk with e | ⟨e, hf⟩
  · rw [e] at hb; exact List.mem_cons_of_mem _ hb
  · rw [e] at hb
    unfold frs at hb
    rw [List.filterMap_cons, hf] at hb
    exact hb
theorem Inv.stkFree (I : Inv X pins σ H s) : ∀ b ∈ frs X.stack, H b = none := fun b hb => by
  rcases List.mem_cons.mp (I.stkSub b hb) with e | hb
  · rw [e]; exact I.free
  · obtain ⟨_, o, ho, _⟩ := I.ok.funs.mem hb
    exact I.base.free b o ho (I.ok.frf b hb) fun z => I.ok.exfs b z hb

theorem Inv.step {g' : Array GenState} {t' : Nat} {d' : Drawn} {ch : List Addr} (I : Inv X pins σ H s)
    (hch : ∀ b ∈ ch, (b ∈ X.ex ∨ X.s_0.heap.objs.size ≤ b) ∧ b ≠ X.env.locals ∧ (∀ x c, X.env.cells.lookup x = some c → c ≠ b) ∧ ∀ p ∈ X.pn ++ pins, p.1 ≠ b)
    (keep : ∀ b o, b ≠ X.env.locals → b ∉ X.fs → b ∉ ch → s.heap.get? b = some o → H b = none → h'.get? b = some o)
    (slot : ∀ b o, b ≠ X.env.locals → b ∈ X.fs → b ∉ ch → s.heap.get? b = some o → H b = none → ∃ sl, h'.get? b = some { o with slots := sl }) (free : ∀ b o, b ∉ ch → s.heap.get? b = some o → H b = none → H' b = none)
    (there : ∀ b o, b ∉ ch → s.heap.get? b = some o → ∃ o', h'.get? b = some o')
    (tups : ∀ b xs, H b = some (.tup xs) → H' b = some (.tup xs)) (frzs : ∀ b o u, H b = some (.frz o u) → H' b = some (.frz o u)) (tbls : ∀ b ps, H b = some (.tbl ps) → ∃ more, H' b = some (.tbl (ps ++ more)))
    (ns : ∀ m, s.heap.Ns X.env.locals m → h'.Ns X.env.locals m) (hok : HOk X.prog X.w H' h') (hg : AllBare g') :
    Inv X pins σ H' { s with heap := h', gens := g', drawn := d', toks := t' } := by
  have neL : ∀ b o, X.s_0.heap.get? b = some o → b ≠ X.env.locals := fun b o e => Nat.ne_of_lt (Nat.lt_of_lt_of_le (Heap.lt_size e) I.ok.above)
  have neC : ∀ b o, X.s_0.heap.get? b = some o → b ∉ X.ex → b ∉ ch := fun b o e hx hb => by
    rcases (hch b hb).1 with z | z
    · exact hx z
    · exact absurd (Nat.lt_of_lt_of_le (Heap.lt_size e) z) (Nat.lt_irrefl _)
  have cellK : ∀ x c, X.env.cells.lookup x = some c → ∀ v, s.heap.IsCell c v → h'.IsCell c v := fun x c e v ⟨o, ho, hd⟩ => by
    have nch : c ∉ ch := fun z => (hch c z).2.2.1 x c e rfl
    by_cases hc : c ∈ X.fs
    · obtain ⟨sl, q⟩ := slot c o (I.cne x c e) hc nch ho (I.freeC x c e)
      exact ⟨_, q, hd⟩
    · exact ⟨o, keep c o (I.cne x c e) hc nch ho (I.freeC x c e), hd⟩
  refine ⟨I.ok, I.os, hg, ⟨fun b o e n hb hx => ?_, fun b o e n hb hx => ?_, fun b o e n hx => ?_, fun b o e hx => ?_, fun b xs e => tups b xs (I.base.tups b xs e), fun b o xs e => frzs b o xs (I.base.frzs b o xs e), fun b ps e => ?_⟩, ?_, fun x c e => ?_, ?_, fun x c e => ?_, fun p hp => ?_, hok, I.len⟩
  · exact keep b o (neL b o e) hb (neC b o e hx) (I.base.keep b o e n hb hx) (I.base.free b o e n hx)
  · obtain ⟨sl, e1⟩ := I.base.slot b o e n hb hx
    obtain ⟨sl', e2⟩ := slot b _ (neL b o e) hb (neC b o e hx) e1 (I.base.free b o e n hx)
    exact ⟨sl', e2⟩
  · obtain ⟨o', e1⟩ := I.base.there b o e hx
    exact free b o' (neC b o e hx) e1 (I.base.free b o e n hx)
  · obtain ⟨o', e1⟩ := I.base.there b o e hx
    exact there b o' (neC b o e hx) e1
  · obtain ⟨m1, e1⟩ := I.base.tbls b ps e
    obtain ⟨m2, e2⟩ := tbls b _ e1
    exact ⟨m1 ++ m2, by rw [e2, Array.append_assoc]⟩
  · obtain ⟨m, hn, hl⟩ := I.loc
    refine ⟨m, ns m hn, fun i x v e1 e2 e3 => ?_⟩
    obtain ⟨u, r, l⟩ := hl i x v e1 e2 e3
    refine ⟨u, r, ?_⟩
    rcases l with l | ⟨k, c, e, z⟩
    · exact .inl l
    · exact .inr ⟨k, c, e, cellK x c e _ z⟩
  · obtain ⟨v, z⟩ := I.cell x c e
    exact ⟨v, cellK x c e v z⟩
  · obtain ⟨m, ⟨o, _, _, ho, _⟩, _⟩ := I.loc
    exact free _ o (fun z => (hch _ z).2.1 rfl) ho I.free
  · obtain ⟨v, o, ho, hd⟩ := I.cell x c e
    exact free c o (fun z => (hch c z).2.2.1 x c e rfl) ho (I.freeC x c e)
  · obtain ⟨e, n, ne, nf, d⟩ := I.pin p hp
    have nch : p.1 ∉ ch := fun z => (hch p.1 z).2.2.2 p hp rfl
    exact ⟨keep p.1 p.2 ne nf nch e n, free p.1 p.2 nch e n, ne, nf, d⟩
theorem Inv.un {t' : Nat} (I : Inv X pins σ H s) (u : Un X.fs [] H H' s.heap h') (hok : HOk X.prog X.w H' h') : Inv X pins σ H' { s with heap := h', toks := t' } := by
  obtain ⟨m, ⟨o, es, ep, ho, r⟩, _⟩ := id I.loc
  obtain ⟨sl, hL⟩ := u.any ho I.free (by simp)
  exact I.step (g' := s.gens) (d' := s.drawn) (ch := []) (fun _ z => nomatch z) (fun b o _ hb _ e n => u.keep b o e n hb (by simp)) (fun b o _ hb _ e n => u.slot b o e n hb (by simp)) (fun b o _ e n => u.free b o e n (by simp)) (fun b o _ e => u.there b o e (by simp)) u.tups u.frzs u.tbls (fun m' hm => by
    obtain ⟨o', es', ep', ho', r'⟩ := hm
    rw [ho] at ho'; cases ho'
    exact ⟨_, es', ep', hL, r'⟩) hok I.bare
theorem Inv.call {g' : Array GenState} {t' : Nat} {d' : Drawn} {ch : List Addr} (I : Inv X pins σ H s) (u : Un (frs X.stack) ch H H' s.heap h') (hok : HOk X.prog X.w H' h') (hg : AllBare g')
    (hch : ∀ b ∈ ch, (b ∈ X.ex ∨ X.s_0.heap.objs.size ≤ b) ∧ b ≠ X.env.locals ∧ (∀ x c, X.env.cells.lookup x = some c → c ≠ b) ∧ ∀ p ∈ X.pn ++ pins, p.1 ≠ b) :
    Inv X pins σ H' { s with heap := h', gens := g', drawn := d', toks := t' } := by
  obtain ⟨m, ⟨o, es, ep, ho, r⟩, _⟩ := id I.loc
  obtain ⟨sl, hL⟩ := u.any ho I.free fun z => (hch _ z).2.1 rfl
  exact I.step (ch := ch) hch (fun b o hL hb hc e n => u.keep b o e n (fun z => (List.mem_cons.mp (I.stkSub b z)).elim hL hb) hc) (fun b o _ _ hc e n => u.any e n hc) (fun b o hc e n => u.free b o e n hc) (fun b o hc e => u.there b o e hc) u.tups u.frzs u.tbls (fun m' hm => by
    obtain ⟨o', es', ep', ho', r'⟩ := hm
    rw [ho] at ho'; cases ho'
    exact ⟨_, es', ep', hL, r'⟩) hok hg
theorem Inv.turned {t' : Nat} {it : Addr} (I : Inv X pins σ H s) (k : ∀ b o, b ≠ it → s.heap.get? b = some o → h'.get? b = some o) (hn : H it = none) (hL : it ≠ X.env.locals)
    (h1 : it ∈ X.ex ∨ X.s_0.heap.objs.size ≤ it) (h2 : ∀ x c, X.env.cells.lookup x = some c → c ≠ it) (h3 : ∀ p ∈ X.pn ++ pins, p.1 ≠ it) : Inv X pins σ H { s with heap := h', toks := t' } := by
  have nit : ∀ b u, H b = some u → b ≠ it := fun b u e z => by rw [z, hn] at e; cases e
  refine I.step (g' := s.gens) (d' := s.drawn) (ch := [it]) (fun b hb => ?_) (fun b o _ _ hc e _ => k b o (fun z => hc (by simp [z])) e) (fun b o _ _ hc e _ => ⟨o.slots, k b o (fun z => hc (by simp [z])) e⟩) (fun _ _ _ _ n => n)
    (fun b o hc e => ⟨o, k b o (fun z => hc (by simp [z])) e⟩) (fun _ _ e => e) (fun _ _ _ e => e) (fun b ps e => ⟨#[], by rw [e]; simp⟩) (fun m hm => ?_) (fun b u e => ?_) I.bare
  · have e : b = it := by simpa using hb
    subst e
    exact ⟨h1, hL, h2, h3⟩
  · obtain ⟨o, es, ep, ho, r⟩ := hm
    exact ⟨o, es, ep, k _ o (Ne.symm hL) ho, r⟩
  · refine (I.hok b u e).stay (fun c v hc q => k c v ?_ q) (fun _ q => q) fun _ _ q => q
    rcases hc with z | z
    · rw [z]; exact nit b u e
    · exact nit c _ z
theorem Inv.tok (I : Inv X pins σ H s) (t : Nat) : Inv X pins σ H { s with toks := t } := I.un (h' := s.heap) (t' := t) Un.refl I.hok
theorem Inv.kept {t' : Nat} (I : Inv X pins σ H s) (k : ∀ b u, s.heap.get? b = some u → h'.get? b = some u) : Inv X pins σ H { s with heap := h', toks := t' } := I.un (Un.kept k) (I.hok.kept k)
theorem Inv.laid {a : Addr} {o : HO} {t' : Nat} (I : Inv X pins σ H s) (k : ∀ b u, s.heap.get? b = some u → h'.get? b = some u) (hp : s.heap.objs.size ≤ a) (new : ObjOk X.prog X.w (upd H a o) h' a o) :
    Inv X pins σ (upd H a o) { s with heap := h', toks := t' } := I.un (Un.laid k hp (I.hok.fresh hp)) (I.hok.laid k hp new)
theorem Inv.write {x e : Addr} {o : HO} {t' : Nat} (I : Inv X pins σ H s) (mu : Mut (H x)) (he : e = x ∨ H e = some (.own x)) (k : ∀ b u, b ≠ e → s.heap.get? b = some u → h'.get? b = some u) (heo : ∃ u, h'.get? e = some u)
    (new : ObjOk X.prog X.w (upd H x o) h' x o) : Inv X pins σ (upd H x o) { s with heap := h', toks := t' } := I.un (Un.write mu he k heo) (I.hok.write mu he k heo new)
theorem Inv.weak {σ' : List (Option V)} (I : Inv X pins σ H s) (hl : σ'.length = σ.length) (w : ∀ (i : Nat) v, σ'[i]? = some (some v) → σ[i]? = some (some v)) : Inv X pins σ' H s :=
  ⟨I.ok, I.os, I.bare, I.base, let ⟨m, hn, hl'⟩ := I.loc; ⟨m, hn, fun i x v e1 e2 e3 => hl' i x v e1 (w i v e2) e3⟩, I.cell, I.free, I.freeC, I.pin, I.hok, hl.trans I.len⟩
theorem Inv.pins_of {pins' : List (Addr × Obj)} (I : Inv X pins σ H s) (h : ∀ p ∈ pins', s.heap.get? p.1 = some p.2 ∧ H p.1 = none ∧ p.1 ≠ X.env.locals ∧ p.1 ∉ X.fs ∧ ∀ v, p.2.data ≠ .cell v) : Inv X pins' σ H s :=
  ⟨I.ok, I.os, I.bare, I.base, I.loc, I.cell, I.free, I.freeC, fun p hp => (List.mem_append.mp hp).elim (fun z => I.pin p (List.mem_append_left _ z)) (h p), I.hok, I.len⟩

theorem nodup_ix {N : List Str} (hN : N.Nodup) {i j : Nat} {x : Str} (a : N[i]? = some x) (b : N[j]? = some x) : i = j := by
  obtain ⟨h1, e1⟩ := List.getElem?_eq_some_iff.mp a
  obtain ⟨h2, e2⟩ := List.getElem?_eq_some_iff.mp b
  exact (List.getElem_inj hN).mp (e1.trans e2.symm)

theorem store_ok2 {M : Model} {A : Around} {E : Value → Shared → Prop} {i : Nat} {x : Str} {v : V} {u : Value} {Q : Unit → Shared → Prop} (I : Inv X pins σ H s) (hN : X.N.Nodup) (hi : X.N[i]? = some x) (hx : Loc X.env.scope x) (r : RelV v u)
    (h : ∀ s', Inv X pins (σ.set i (some v)) H s' → (∃ a, Heap.SameBut a s.heap s'.heap ∧ (a = X.env.locals ∨ X.env.cells.lookup x = some a)) → Q () s') (hf : X.fn x = true ∨ X.env.scope.names.lookup x = some .local := by first | exact .inl rfl | exact .inr rfl | assumption) : wpAny M A (storeName X.env x u) Q E s := by
  obtain ⟨m, hn, hl⟩ := id I.loc
  have hcls : (X.env.scope.kind == .class || (X.env.scope.kind == .module && X.env.locals != X.env.globals)) = false := by rw [I.ok.kind]; rfl
  have hiσ : i < σ.length := by rw [I.len]; exact (List.getElem?_eq_some_iff.mp hi).1
  have cne := I.cne
  have tracked : ∀ {a : Addr} {h' : Heap}, (∃ o, s.heap.get? a = some o ∧ H a = none) → Heap.SameBut a s.heap h' → HOk X.prog X.w H h' := fun {a h'} ha hs b ob e => by
    obtain ⟨_, _, hfree⟩ := ha
    refine (I.hok b ob e).stay (fun c w' hc q => (hs.2 c ?_).trans q) (fun _ q => q) fun _ _ q => q
    rintro rfl
    rcases hc with rfl | hc
    · rw [hfree] at e; cases e
    · rw [hfree] at hc; cases hc
  rcases hx with hk | hk
  · refine wpAny_storeName_local hk hn (fun h' hn' hs => ?_) hcls
    obtain ⟨oL, _, _, hoL, _⟩ := id hn
    refine h _ ⟨I.ok, I.os, I.bare, ⟨fun b o e n hb hx => ?_, fun b o e n hb hx => ?_, I.base.free, fun b o e hx => ?_, I.base.tups, I.base.frzs, I.base.tbls⟩, ⟨_, hn', fun j y v' e1 e2 e3 => ?_⟩, fun y c e => ?_, I.free, I.freeC, fun p hp => ?_, tracked ⟨oL, hoL, I.free⟩ hs, by simpa using I.len⟩ ⟨_, hs, .inl rfl⟩
    · exact (hs.2 b (Nat.ne_of_lt (Nat.lt_of_lt_of_le (Heap.lt_size e) I.ok.above))).trans (I.base.keep b o e n hb hx)
    · obtain ⟨sl, e1⟩ := I.base.slot b o e n hb hx
      exact ⟨sl, (hs.2 b (Nat.ne_of_lt (Nat.lt_of_lt_of_le (Heap.lt_size e) I.ok.above))).trans e1⟩
    · obtain ⟨o', e1⟩ := I.base.there b o e hx
      exact ⟨o', (hs.2 b (Nat.ne_of_lt (Nat.lt_of_lt_of_le (Heap.lt_size e) I.ok.above))).trans e1⟩
    · by_cases hj : j = i
      · subst hj
        rw [hi] at e1; cases e1
        rw [List.getElem?_set_self hiσ] at e2
        cases e2
        exact ⟨u, r, .inl ⟨hk, by simp⟩⟩
      · rw [List.getElem?_set_ne (Ne.symm hj)] at e2
        obtain ⟨u', r', q⟩ := hl j y v' e1 e2 e3
        refine ⟨u', r', ?_⟩
        rcases q with ⟨k, e⟩ | ⟨k, c, e, z⟩
        · refine .inl ⟨k, ?_⟩
          have : y ≠ x := fun e => hj (nodup_ix hN e1 (e ▸ hi))
          simp [this, e]
        · exact .inr ⟨k, c, e, z.sameBut hs (cne y c e)⟩
    · obtain ⟨w', z⟩ := I.cell y c e
      exact ⟨w', z.sameBut hs (cne y c e)⟩
    · obtain ⟨e, n, ne, nf, d⟩ := I.pin p hp
      exact ⟨(hs.2 p.1 ne).trans e, n, ne, nf, d⟩
  · have hfn : X.fn x = true := by
      rcases hf with z | z
      · exact z
      · rw [z] at hk; cases hk
    obtain ⟨c, hc⟩ := I.ok.has x (.inl hk)
    obtain ⟨w', z⟩ := I.cell x c hc
    refine wpAny_storeName_cell I.ok.kind hk hc z (fun h' hc' hs => ?_)
    obtain ⟨oc, hoc, hocd⟩ := id z
    refine h { s with heap := h' } ⟨I.ok, I.os, I.bare, ⟨fun b o e n hb hx => ?_, fun b o e n hb hx => ?_, I.base.free, fun b o e hx => ?_, I.base.tups, I.base.frzs, I.base.tbls⟩, ⟨m, hn.sameBut hs (Ne.symm (cne x c hc)), fun j y v' e1 e2 e3 => ?_⟩, fun y c' e => ?_, I.free, I.freeC, fun p hp => ?_, tracked ⟨oc, hoc, I.freeC x c hc⟩ hs, by simpa using I.len⟩ ⟨c, hs, .inr hc⟩
    · exact (hs.2 b (Nat.ne_of_lt (Nat.lt_of_lt_of_le (Heap.lt_size e) (I.ok.cab x c hfn hc)))).trans (I.base.keep b o e n hb hx)
    · obtain ⟨sl, e1⟩ := I.base.slot b o e n hb hx
      exact ⟨sl, (hs.2 b (Nat.ne_of_lt (Nat.lt_of_lt_of_le (Heap.lt_size e) (I.ok.cab x c hfn hc)))).trans e1⟩
    · obtain ⟨o', e1⟩ := I.base.there b o e hx
      exact ⟨o', (hs.2 b (Nat.ne_of_lt (Nat.lt_of_lt_of_le (Heap.lt_size e) (I.ok.cab x c hfn hc)))).trans e1⟩
    · by_cases hj : j = i
      · subst hj
        rw [hi] at e1; cases e1
        rw [List.getElem?_set_self hiσ] at e2
        cases e2
        exact ⟨u, r, .inr ⟨.inl hk, c, hc, hc'⟩⟩
      · rw [List.getElem?_set_ne (Ne.symm hj)] at e2
        obtain ⟨u', r', q⟩ := hl j y v' e1 e2 e3
        refine ⟨u', r', ?_⟩
        rcases q with q | ⟨k, c', e, z'⟩
        · exact .inl q
        · refine .inr ⟨k, c', e, z'.sameBut hs ?_⟩
          rintro rfl
          exact hj (nodup_ix hN e1 (I.ok.inj _ _ _ e hc ▸ hi))
    · by_cases hcc : c' = c
      · subst hcc; exact ⟨_, hc'⟩
      · obtain ⟨w2, z2⟩ := I.cell y c' e
        exact ⟨w2, z2.sameBut hs hcc⟩
    · obtain ⟨e, n, ne, nf, d⟩ := I.pin p hp
      refine ⟨(hs.2 p.1 ?_).trans e, n, ne, nf, d⟩
      intro q
      rw [q, hoc] at e
      have q' : oc = p.2 := Option.some.inj e
      exact d w' (by rw [← q']; exact hocd)
theorem store_ok {M : Model} {A : Around} {E : Value → Shared → Prop} {i : Nat} {x : Str} {v : V} {u : Value} {Q : Unit → Shared → Prop} (I : Inv X pins σ H s) (hN : X.N.Nodup) (hi : X.N[i]? = some x) (hx : Loc X.env.scope x) (r : RelV v u)
    (h : ∀ s', Inv X pins (σ.set i (some v)) H s' → Q () s') (hf : X.fn x = true ∨ X.env.scope.names.lookup x = some .local := by first | exact .inl rfl | exact .inr rfl | assumption) : wpAny M A (storeName X.env x u) Q E s :=
  store_ok2 I hN hi hx r (fun s' I' _ => h s' I') hf
theorem Inv.call' {s' : Shared} {ch : List Addr} (I : Inv X pins σ H s) (ho : s'.os = s.os) (u : Un (frs X.stack) ch H H' s.heap s'.heap) (hok : HOk X.prog X.w H' s'.heap) (hg : AllBare s'.gens)
    (hch : ∀ b ∈ ch, (b ∈ X.ex ∨ X.s_0.heap.objs.size ≤ b) ∧ b ≠ X.env.locals ∧ (∀ x c, X.env.cells.lookup x = some c → c ≠ b) ∧ ∀ p ∈ X.pn ++ pins, p.1 ≠ b) : Inv X pins σ H' s' := by
  obtain ⟨h', g', d', t', o'⟩ := s'
  have e : o' = s.os := ho
  subst e
  exact I.call (g' := g') (t' := t') (d' := d') u hok hg hch
end

abbrev XK := Value → Option Addr → Hp → Prop
abbrev St := List (Option V)
abbrev VK := V → Hp → Prop
abbrev TE := St → Hp → VK → Prop
abbrev TT := St → Hp → (Bool → Hp → Prop) → Prop
abbrev TA := St → Hp → (List V → Hp → Prop) → Prop
structure Ends where
  nx : St → Hp → Prop
  rt : VK
  bk : St → Hp → Prop := fun _ _ => False
  ct : St → Hp → Prop := fun _ _ => False
abbrev TS := Ends → St → Hp → Prop

def EP (X : Cx) (pins : List (Addr × Obj)) (σ : St) (Q : VK) (u : Value) (s' : Shared) : Prop := ∃ v H', Inv X pins σ H' s' ∧ RelV v u ∧ Q v H'
def TP (X : Cx) (pins : List (Addr × Obj)) (σ : St) (Q : Bool → Hp → Prop) (b : Bool) (s' : Shared) : Prop := ∃ H', Inv X pins σ H' s' ∧ Q b H'
def AP (X : Cx) (pins : List (Addr × Obj)) (σ : St) (Q : List V → Hp → Prop) (us : List Value) (s' : Shared) : Prop := ∃ vs H', Inv X pins σ H' s' ∧ Vals vs us ∧ Q vs H'
def SP (X : Cx) (pins : List (Addr × Obj)) (D : Ends) (f : Flow) (s' : Shared) : Prop :=
  match f with
  | .next => ∃ σ' H', Inv X pins σ' H' s' ∧ D.nx σ' H'
  | .brk => ∃ σ' H', Inv X pins σ' H' s' ∧ D.bk σ' H'
  | .cont => ∃ σ' H', Inv X pins σ' H' s' ∧ D.ct σ' H'
  | .ret u => ∃ v σ' H', Inv X pins σ' H' s' ∧ RelV v u ∧ D.rt v H'

def PE (X : Cx) (e : Expr) (t : TE) : Prop :=
  ∀ (pins : List (Addr × Obj)) (s : Shared) (σ : St) (H : Hp) (Q : VK), Inv X pins σ H s → t σ H Q → wpAny (model X.prog X.w) X.A (eval e X.env) (EP X pins σ Q) X.xe s
def PT (X : Cx) (e : Expr) (t : TT) : Prop :=
  ∀ (pins : List (Addr × Obj)) (s : Shared) (σ : St) (H : Hp) (Q : Bool → Hp → Prop), Inv X pins σ H s → t σ H Q → wpAny (model X.prog X.w) X.A (isTrue e X.env (eval e X.env)) (TP X pins σ Q) X.xe s
def PW (X : Cx) (e : Expr) (t : TT) : Prop :=
  ∀ (whole : Sem Value) (pins : List (Addr × Obj)) (s : Shared) (σ : St) (H : Hp) (Q : Bool → Hp → Prop), Inv X pins σ H s → t σ H Q → wpAny (model X.prog X.w) X.A (isTrue e X.env whole) (TP X pins σ Q) X.xe s
theorem PW.pt {X : Cx} {e : Expr} {t : TT} (h : PW X e t) : PT X e t := h _
def PA (X : Cx) (es : List Expr) (t : TA) : Prop :=
  ∀ (pos : Pos) (pins : List (Addr × Obj)) (s : Shared) (σ : St) (H : Hp) (Q : List V → Hp → Prop), Inv X pins σ H s → t σ H Q → wpAny (model X.prog X.w) X.A (spliced (backTo pos (starEach es X.env))) (AP X pins σ Q) X.xe s
def PS (X : Cx) (st : Stmt) (t : TS) : Prop :=
  ∀ (pins : List (Addr × Obj)) (s : Shared) (σ : St) (H : Hp) (D : Ends), Inv X pins σ H s → t D σ H → wpAny (model X.prog X.w) X.A (exec st X.env) (SP X pins D) X.xe s
def PSs (X : Cx) (st : List Stmt) (t : TS) : Prop :=
  ∀ (pins : List (Addr × Obj)) (s : Shared) (σ : St) (H : Hp) (D : Ends), Inv X pins σ H s → t D σ H → wpAny (model X.prog X.w) X.A (execs st X.env) (SP X pins D) X.xe s
theorem thn {α : Type} {t : Sem α} {Q Q' : α → Shared → Prop} {M : Model} {A : Around} {E : Value → Shared → Prop} {s : Shared} (h : wpAny M A t Q E s) (hQ : ∀ a s, Q a s → Q' a s) : wpAny M A t Q' E s := wpAny_mono h hQ fun _ _ x => x
end L2

namespace L2
open PySem PySem.Spec PyProof.Rows
section
variable {X : Cx}

def tVar (i : Nat) : TE := fun σ H Q => ∃ v, σ[i]? = some (some v) ∧ Q v H
def tC (v : V) : TE := fun _ H Q => Q v H
theorem pe_var {i : Nat} {x : Str} {pos : Pos} (hN : X.N[i]? = some x) (hv : Vis X.env.scope x) (hd : (x == ("__debug__" : Str)) = false := by decide) (hcd : (x == ("__classdict__" : Str)) = false := by decide) : PE X (.Name x pos) (tVar i) := by
  intro pins s σ H Q I h
  obtain ⟨v, e, h⟩ := h
  obtain ⟨m, hn, hl⟩ := I.loc
  obtain ⟨u, r, l⟩ := hl i x v hN e hv
  have fin : EP X pins σ Q u s := ⟨v, H, I, r, h⟩
  rcases l with ⟨hk, hm⟩ | ⟨hk, c, hc, hcell⟩
  · exact wpAny_Name (wpAny_loadName_local I.ok.kind hk hn hm fin) hd
  · rcases hk with hk | hk
    · exact wpAny_Name (wpAny_loadName_cell I.ok.kind hk hc hcell fin) hd
    · exact wpAny_Name (wpAny_loadName_free I.ok.kind hk hc hcell fin hcd) hd
theorem pe_int {i j pos} : PE X (.Constant (.int i) j pos) (tC (.int i)) := fun _ _ _ H _ I h => wpAny_Constant_int ⟨.int i, H, I.tok _, ⟨_, rfl⟩, h⟩
theorem pe_bl {b j pos} : PE X (.Constant (.bool b) j pos) (tC (.bl b)) := fun _ _ _ H _ I h => Constant_bool ⟨.bl b, H, I, rfl, h⟩
theorem pe_non {j pos} : PE X (.Constant .none j pos) (tC .non) := fun _ _ _ H _ I h => Constant_none ⟨.non, H, I, rfl, h⟩
theorem pe_str {x j pos} : PE X (.Constant (.str x) j pos) (tC (.str x)) := fun _ _ _ H _ I h => Calls.Constant_str ⟨.str x, H, I.tok _, ⟨_, rfl⟩, h⟩

def Gl (X : Cx) (x : Str) : Prop := X.env.kindOf x = some .globalImplicit
theorem ld_glob {E : Value → Shared → Prop} {pins : List (Addr × Obj)} {s : Shared} {σ : St} {H : Hp} {x : Str} {u : Value} {pos : Pos} {Q : Value → Shared → Prop} (I : Inv X pins σ H s) (hg : Gl X x) (hm : X.mg x = some u) (h : Q u s)
    (hd : (x == ("__debug__" : Str)) = false := by decide) : wpAny (model X.prog X.w) X.A (eval (.Name x pos) X.env) Q E s :=
  Calls.Name_function_global I.ok.kind hg (Calls.loadGlobal_global (by rw [I.ok.glob]; exact I.mod.glob.keeps I.bk) hm h) hd
theorem ld_blt {E : Value → Shared → Prop} {pins : List (Addr × Obj)} {s : Shared} {σ : St} {H : Hp} {x : Str} {u : Value} {pos : Pos} {Q : Value → Shared → Prop} (I : Inv X pins σ H s) (hg : Gl X x) (hm : X.mg x = none) (hv : bootBuiltins x = some u) (h : Q u s)
    (hn : x ≠ "__name__" := by decide) (hd : (x == ("__debug__" : Str)) = false := by decide) : wpAny (model X.prog X.w) X.A (eval (.Name x pos) X.env) Q E s := by
  obtain ⟨mb, h1, h2⟩ := I.mod.blt
  exact Calls.Name_function_global I.ok.kind hg (Calls.loadGlobal_builtin (by rw [I.ok.glob]; exact I.mod.glob.keeps I.bk) hm (by rw [I.ok.blt]; exact h1.keeps I.bk) ((h2 x hn).trans hv) h) hd
theorem pe_glob {x : Str} {v : V} {u : Value} {pos : Pos} (hg : Gl X x) (hm : X.mg x = some u) (r : RelV v u) (hd : (x == ("__debug__" : Str)) = false := by decide) : PE X (.Name x pos) (tC v) :=
  fun _ _ _ H _ I h => ld_glob I hg hm ⟨v, H, I, r, h⟩ hd
theorem pe_bltn {x : Str} {v : V} {u : Value} {pos : Pos} (hg : Gl X x) (hm : X.mg x = none) (hv : bootBuiltins x = some u) (r : RelV v u) (hn : x ≠ "__name__" := by decide) (hd : (x == ("__debug__" : Str)) = false := by decide) : PE X (.Name x pos) (tC v) :=
  fun _ _ _ H _ I h => ld_blt I hg hm hv ⟨v, H, I, r, h⟩ hn hd

variable {a b : Expr} {ta tb : TE} {pos : Pos}
def PC (X : Cx) (op : CmpOp) (a b : Expr) (t : TE) : Prop :=
  ∀ (pins : List (Addr × Obj)) (s : Shared) (σ : St) (H : Hp) (Q : VK), Inv X pins σ H s → t σ H Q →
    wpAny (model X.prog X.w) X.A (eval a X.env) (fun v s₁ => wpAny (model X.prog X.w) X.A (eval b X.env) (fun u s₂ => wpAny (model X.prog X.w) X.A (compareOp op v u) (EP X pins σ Q) X.xe s₂) X.xe s₁) X.xe s
def tB (t : TE) : TT := fun σ H Q => t σ H fun x H1 => ∃ c, x = .bl c ∧ Q c H1
variable {tA tB' : TT} {rest : List Expr}
def tAnd (t u : TT) : TT := fun σ H Q => t σ H fun c H1 => if c = true then u σ H1 Q else Q false H1
def tOr (t u : TT) : TT := fun σ H Q => t σ H fun c H1 => if c = true then Q true H1 else u σ H1 Q
def tNot (t : TT) : TT := fun σ H Q => t σ H fun c H1 => Q (!c) H1
theorem pw_and1 (ha : PT X a tA) : PW X (.BoolOp .And [a] pos) tA := by
  intro wh pins s σ H Q I h
  refine isTrue_and (thn (ha pins s σ H Q I h) fun c s1 e => ?_)
  cases c with
  | true => exact isTrue_and_nil e
  | false => exact e
theorem pw_or1 (ha : PT X a tA) : PW X (.BoolOp .Or [a] pos) tA := by
  intro wh pins s σ H Q I h
  refine isTrue_or (thn (ha pins s σ H Q I h) fun c s1 e => ?_)
  cases c with
  | false => exact isTrue_or_nil e
  | true => exact e
theorem pw_and (ha : PT X a tA) (hb : PW X (.BoolOp .And (b :: rest) pos) tB') : PW X (.BoolOp .And (a :: b :: rest) pos) (tAnd tA tB') := by
  intro wh pins s σ H Q I h
  refine isTrue_and (thn (ha pins s σ H _ I h) fun c s1 ⟨H1, I1, q1⟩ => ?_)
  cases c with
  | true => exact hb wh pins s1 σ H1 Q I1 q1
  | false => exact ⟨H1, I1, q1⟩
theorem pw_or (ha : PT X a tA) (hb : PW X (.BoolOp .Or (b :: rest) pos) tB') : PW X (.BoolOp .Or (a :: b :: rest) pos) (tOr tA tB') := by
  intro wh pins s σ H Q I h
  refine isTrue_or (thn (ha pins s σ H _ I h) fun c s1 ⟨H1, I1, q1⟩ => ?_)
  cases c with
  | true => exact ⟨H1, I1, q1⟩
  | false => exact hb wh pins s1 σ H1 Q I1 q1
theorem pt_not (ha : PT X a tA) : PT X (.UnaryOp .Not a pos) (tNot tA) := by
  intro pins s σ H Q I h
  exact isTrue_not (ha pins s σ H (fun c H1 => Q (!c) H1) I h)
def tAndV (ta tb : TE) : TE := fun σ H Q => ta σ H fun x H1 => ∃ c, x = .bl c ∧ if c = true then tb σ H1 Q else Q (.bl false) H1
def tOrV (ta tb : TE) : TE := fun σ H Q => ta σ H fun x H1 => ∃ c, x = .bl c ∧ if c = true then Q (.bl true) H1 else tb σ H1 Q
theorem pe_one {op} {t : TE} (h : PE X a t) : PE X (.BoolOp op [a] pos) t := fun pins s σ H Q I hw => BoolOp_one (h pins s σ H Q I hw)
theorem pe_and (ha : PE X a ta) (hb : PE X (.BoolOp .And (b :: rest) pos) tb) : PE X (.BoolOp .And (a :: b :: rest) pos) (tAndV ta tb) := by
  intro pins s σ H Q I h
  refine BoolOp_and (thn (ha pins s σ H _ I h) fun v s1 ⟨x, H1, I1, r1, q1⟩ => ?_)
  obtain ⟨c, rfl, q1⟩ := q1
  cases r1
  refine wpAny_truthy_bool ?_
  cases c with
  | true => exact hb pins s1 σ H1 Q I1 q1
  | false => exact ⟨.bl false, H1, I1, rfl, q1⟩
def tIf (t : TT) (ta tb : TE) : TE := fun σ H Q => t σ H fun c H1 => if c = true then ta σ H1 Q else tb σ H1 Q
theorem pe_ifExp {c : Expr} (hc : PT X c tA) (ha : PE X a ta) (hb : PE X b tb) : PE X (.IfExp c a b pos) (tIf tA ta tb) := by
  intro pins s σ H Q I h
  refine wpAny_IfExp (thn (hc pins s σ H _ I h) fun d s1 ⟨H1, I1, q1⟩ => ?_)
  cases d with
  | true => exact ha pins s1 σ H1 Q I1 q1
  | false => exact hb pins s1 σ H1 Q I1 q1
end
end L2

namespace L2
open PySem PySem.Spec PyProof.Rows

def SqL (K : PySem.W.Frag) (H : Hp) (a : Addr) (xs : List V) : Prop :=
  Rd H a (.lst xs) ∨
    ∃ (o : Obj) (its : Array Value) (n : Nat), K.lookup a = some o ∧ o.cls = .type "list" ∧ o.dict = none ∧ o.data = .seq its n ∧ its.size ≤ sizeLine ∧ Vals xs its.toList
def SqT (K : PySem.W.Frag) (H : Hp) (a : Addr) (xs : List V) : Prop :=
  Rd H a (.tup xs) ∨
    ∃ (o : Obj) (its : Array Value) (n : Nat), K.lookup a = some o ∧ o.cls = .type "tuple" ∧ o.data = .seq its n ∧ its.size ≤ sizeLine ∧ Vals xs its.toList
def absV : Value → Option V
  | .none => some .non
  | .bool b => some (.bl b)
  | .int i _ => some (.int i)
  | .str x _ => some (.str x)
  | .bytes b _ => some (.byt b)
  | .float b _ => some (.flt b)
  | .ref a => some (.ref a)
  | .type n => some (.ty n)
  | _ => none
theorem RelV.abs {x : V} {u : Value} (r : RelV x u) : absV u = some x := by
  cases x with
  | non => cases r; rfl
  | bl _ => cases r; rfl
  | int _ => obtain ⟨t, rfl⟩ := r; rfl
  | str _ => obtain ⟨t, rfl⟩ := r; rfl
  | byt _ => obtain ⟨t, rfl⟩ := r; rfl
  | flt _ => obtain ⟨t, rfl⟩ := r; rfl
  | ref _ => cases r; rfl
  | ty _ => cases r; rfl
theorem RelV.inj {x y : V} {u : Value} (r : RelV x u) (q : RelV y u) : x = y := Option.some.inj (r.abs.symm.trans q.abs)
theorem Vals.inj : ∀ {xs ys : List V} {us : List Value}, Vals xs us → Vals ys us → xs = ys
  | _, _, _, .nil, .nil => rfl
  | _, _, _, .cons r t, .cons r' t' => by rw [r.inj r', Vals.inj t t']
section
variable {X : Cx} {pins : List (Addr × Obj)} {σ : St} {H : Hp} {s : Shared} {a : Addr} {xs ys : List V}
theorem SqL.of {K : PySem.W.Frag} (h : H a = some (.lst xs)) : SqL K H a xs := .inl (.inl h)
theorem SqT.of {K : PySem.W.Frag} (h : H a = some (.tup xs)) : SqT K H a xs := .inl (.inl h)
theorem Inv.list (I : Inv X pins σ H s) (h : SqL X.K H a xs) : ∃ its : List Value, Vals xs its ∧ PlainL s.heap a its.toArray ∧ xs.length ≤ sizeLine := by
  rcases h with h | ⟨o, its, n, hk, hc, hd, hs, hz, r⟩
  · obtain ⟨z, its, n, r, e⟩ := h.ok I.hok
    exact ⟨its, r, ⟨_, n, e, rfl, rfl, rfl⟩, z⟩
  · refine ⟨its.toList, r, ⟨o, n, I.kIn a o hk, hc, hd, by simpa using hs⟩, ?_⟩
    have e := r.length
    simp only [Array.length_toList] at e
    omega
theorem Inv.tuple (I : Inv X pins σ H s) (h : SqT X.K H a xs) : ∃ its : List Value, Vals xs its ∧ IsTup s.heap a its.toArray ∧ xs.length ≤ sizeLine := by
  rcases h with h | ⟨o, its, n, hk, hc, hs, hz, r⟩
  · obtain ⟨z, its, r, p⟩ := h.ok I.hok
    exact ⟨its, r, p, z⟩
  · refine ⟨its.toList, r, ⟨o, I.kIn a o hk, hc, n, by simpa using hs⟩, ?_⟩
    have e := r.length
    simp only [Array.length_toList] at e
    omega
theorem Inv.list_inj (I : Inv X pins σ H s) (h : SqL X.K H a xs) (h' : SqL X.K H a ys) : xs = ys := by
  obtain ⟨its, r, ⟨o, n, e, _, _, d⟩, _⟩ := I.list h
  obtain ⟨its', r', ⟨o', n', e', _, _, d'⟩, _⟩ := I.list h'
  rw [e] at e'; cases e'
  rw [d] at d'
  injection d' with d1 _
  have : its = its' := by simpa using congrArg Array.toList d1
  subst this
  exact r.inj r'
theorem Inv.tuple_inj (I : Inv X pins σ H s) (h : SqT X.K H a xs) (h' : SqT X.K H a ys) : xs = ys := by
  obtain ⟨its, r, ⟨o, e, _, n, d⟩, _⟩ := I.tuple h
  obtain ⟨its', r', ⟨o', e', _, n', d'⟩, _⟩ := I.tuple h'
  rw [e] at e'; cases e'
  rw [d] at d'
  injection d' with d1 _
  have : its = its' := by simpa using congrArg Array.toList d1
  subst this
  exact r.inj r'
end

abbrev Cx.wish (X : Cx) (E : Value → Shared → Prop) : Cx := { X with xe := E }
abbrev Cx.nox (X : Cx) : Cx := X.wish fun _ _ => False
theorem Cx.Ok.wish {X : Cx} (ok : X.Ok) (E : Value → Shared → Prop) : (X.wish E).Ok :=
  ⟨ok.mod, ok.kind, ok.glob, ok.blt, ok.above, ok.inj, ok.has, ok.cab, ok.hd, ok.frames, ok.stk, ok.exf, ok.bs, ok.bsz, ok.noex, ok.exfs, ok.funs, ok.frf⟩
theorem Cx.Ok.unwish {X : Cx} {E : Value → Shared → Prop} (ok : (X.wish E).Ok) : X.Ok :=
  ⟨ok.mod, ok.kind, ok.glob, ok.blt, ok.above, ok.inj, ok.has, ok.cab, ok.hd, ok.frames, ok.stk, ok.exf, ok.bs, ok.bsz, ok.noex, ok.exfs, ok.funs, ok.frf⟩
section
variable {X : Cx} {pins : List (Addr × Obj)} {σ : St} {H : Hp} {s : Shared} {E : Value → Shared → Prop}
theorem Inv.wish (I : Inv X pins σ H s) (E : Value → Shared → Prop) : Inv (X.wish E) pins σ H s := ⟨I.ok.wish E, I.os, I.bare, I.base, I.loc, I.cell, I.free, I.freeC, I.pin, I.hok, I.len⟩
theorem Inv.unwish (I : Inv (X.wish E) pins σ H s) : Inv X pins σ H s := ⟨I.ok.unwish, I.os, I.bare, I.base, I.loc, I.cell, I.free, I.freeC, I.pin, I.hok, I.len⟩
theorem SP.unwish {D : Ends} {f : Flow} {s' : Shared} (h : SP (X.wish E) pins D f s') : SP X pins D f s' := by
  cases f with
  | next => obtain ⟨σ', H', I, q⟩ := h; exact ⟨σ', H', I.unwish, q⟩
  | brk => obtain ⟨σ', H', I, q⟩ := h; exact ⟨σ', H', I.unwish, q⟩
  | cont => obtain ⟨σ', H', I, q⟩ := h; exact ⟨σ', H', I.unwish, q⟩
  | ret u => obtain ⟨v, σ', H', I, r, q⟩ := h; exact ⟨v, σ', H', I.unwish, r, q⟩
theorem PE.nox {e : Expr} {t : TE} (h : PE X.nox e t) : PE X e t := fun pins s σ H Q I hw =>
  wpAny_mono (h pins s σ H Q (I.wish _) hw) (fun _ _ ⟨v, H', I', r, q⟩ => ⟨v, H', I'.unwish, r, q⟩) fun _ _ z => False.elim z
theorem PT.nox {e : Expr} {t : TT} (h : PT X.nox e t) : PT X e t := fun pins s σ H Q I hw =>
  wpAny_mono (h pins s σ H Q (I.wish _) hw) (fun _ _ ⟨H', I', q⟩ => ⟨H', I'.unwish, q⟩) fun _ _ z => False.elim z
theorem PSs.nox {st : List Stmt} {t : TS} (h : PSs X.nox st t) : PSs X st t := fun pins s σ H D I hw =>
  wpAny_mono (h pins s σ H D (I.wish _) hw) (fun _ _ q => q.unwish) fun _ _ z => False.elim z
end

section
variable {X : Cx} {st : Stmt} {rest : List Stmt} {t u : TS} {e : Expr} {te : TE} {pos : Pos}
def tNext : TS := fun D σ H => D.nx σ H
def tSeq (t u : TS) : TS := fun D σ H => t { D with nx := u D } σ H
theorem pss_nil : PSs X [] tNext := fun _ _ σ H _ I h => wpAny_execs_nil ⟨σ, H, I, h⟩
theorem pss_cons (h1 : PS X st t) (h2 : PSs X rest u) : PSs X (st :: rest) (tSeq t u) := by
  intro pins s σ H D I h
  refine wpAny_execs_cons (thn (h1 pins s σ H { D with nx := u D } I h) fun f s1 q => ?_)
  cases f with
  | next =>
    obtain ⟨σ', H', I', q⟩ := q
    exact h2 pins s1 σ' H' D I' q
  | ret v => exact q
  | brk => exact q
  | cont => exact q
theorem pss_one (h1 : PS X st t) : PSs X [st] t := by
  intro pins s σ H D I h
  refine wpAny_execs_cons (thn (h1 pins s σ H D I h) fun f s1 q => ?_)
  cases f with
  | next => exact wpAny_execs_nil q
  | ret v => exact q
  | brk => exact q
  | cont => exact q
theorem Inv.quiet {pins : List (Addr × Obj)} {σ : St} {H : Hp} {s : Shared} (I : Inv X pins σ H s) : interactive X.env = false := by simp [interactive, I.ok.kind]
def tDrop (te : TE) : TS := fun D σ H => te σ H fun _ H1 => D.nx σ H1
theorem ps_expr (he : PE X e te) (hs : swapsWith e none pos.line X.env = pure false := by rfl) : PS X (.Expr e pos) (tDrop te) := by
  intro pins s σ H D I h
  exact wpAny_Expr_any (thn (he pins s σ H _ I h) fun v s1 ⟨x, H1, I1, r1, q1⟩ => ⟨σ, H1, I1, q1⟩) I.quiet hs
def tRet (te : TE) : TS := fun D σ H => te σ H D.rt
theorem ps_ret (he : PE X e te) : PS X (.Return (some e) pos) (tRet te) := by
  intro pins s σ H D I h
  exact wpAny_Return_some (thn (he pins s σ H _ I h) fun v s1 ⟨x, H1, I1, r1, q1⟩ => ⟨x, σ, H1, I1, r1, q1⟩)
def tIfS (c : TT) (t u : TS) : TS := fun D σ H => c σ H fun b H1 => if b = true then t D σ H1 else u D σ H1
theorem ps_if {c : Expr} {a b : List Stmt} {tc : TT} (hc : PT X c tc) (ha : PSs X a t) (hb : PSs X b u) : PS X (.If c a b pos) (tIfS tc t u) := by
  intro pins s σ H D I h
  refine wpAny_If (thn (hc pins s σ H _ I h) fun d s1 ⟨H1, I1, q1⟩ => ?_)
  cases d with
  | true => exact ha pins s1 σ H1 D I1 q1
  | false => exact hb pins s1 σ H1 D I1 q1
end

abbrev TG := V → St → Hp → (St → Hp → Prop) → Prop
abbrev TGs := List V → St → Hp → (St → Hp → Prop) → Prop
def PG (X : Cx) (target : Expr) (t : TG) : Prop :=
  ∀ (pins : List (Addr × Obj)) (s : Shared) (σ : St) (H : Hp) (v : V) (u : Value) (Q : St → Hp → Prop), Inv X pins σ H s → RelV v u → t v σ H Q →
    wpAny (model X.prog X.w) X.A (assign target X.env u) (fun _ s' => ∃ σ' H', Inv X pins σ' H' s' ∧ Q σ' H') X.xe s
def PGs (X : Cx) (ts : List Expr) (t : TGs) : Prop :=
  ∀ (pins : List (Addr × Obj)) (s : Shared) (σ : St) (H : Hp) (vs : List V) (us : List Value) (Q : St → Hp → Prop), Inv X pins σ H s → Vals vs us → t vs σ H Q →
    wpAny (model X.prog X.w) X.A (assignInOrder ((assignEach ts X.env).map (·.2)) us) (fun _ s' => ∃ σ' H', Inv X pins σ' H' s' ∧ Q σ' H') X.xe s
abbrev TSet := V → V → V → Hp → (Hp → Prop) → Prop
def PSet (X : Cx) (t : TSet) : Prop :=
  ∀ (pins : List (Addr × Obj)) (s : Shared) (σ : St) (H : Hp) (o i v : V) (ov iv u : Value) (Q : Hp → Prop), Inv X pins σ H s → RelV o ov → RelV i iv → RelV v u → t o i v H Q →
    wpAny (model X.prog X.w) X.A (setItem ov iv u) (fun _ s' => ∃ H', Inv X pins σ H' s' ∧ Q H') X.xe s
abbrev TIp := V → V → Hp → VK → Prop
section
variable {X : Cx} {pos : Pos}
def gName (i : Nat) : TG := fun v σ H Q => Q (σ.set i (some v)) H
theorem pg_name {i : Nat} {x : Str} (hN : X.N.Nodup) (hi : X.N[i]? = some x) (hx : Loc X.env.scope x) (hf : X.fn x = true ∨ X.env.scope.names.lookup x = some .local := by first | exact .inl rfl | exact .inr rfl | assumption) : PG X (.Name x pos) (gName i) := by
  intro pins s σ H v u Q I r h
  exact wpAny_assign_Name (store_ok I hN hi hx r (fun s' I' => ⟨_, H, I', h⟩) hf)
def gNil : TGs := fun vs σ H Q => vs = [] ∧ Q σ H
def gCons (t : TG) (u : TGs) : TGs := fun vs σ H Q => ∃ v r, vs = v :: r ∧ t v σ H fun σ' H' => u r σ' H' Q
theorem pgs_nil : PGs X [] gNil := by
  intro pins s σ H vs us Q I r h
  obtain ⟨e, h⟩ := h
  subst e
  cases r
  exact assignInOrder_nil ⟨σ, H, I, h⟩
theorem pgs_cons {e : Expr} {es : List Expr} {t : TG} {u : TGs} (h1 : PG X e t) (h2 : PGs X es u)
    (hs : (assignEach (e :: es) X.env).map (·.2) = assign e X.env :: (assignEach es X.env).map (·.2) := by rfl) : PGs X (e :: es) (gCons t u) := by
  intro pins s σ H vs us Q I r h
  obtain ⟨v, vr, e1, h⟩ := h
  subst e1
  cases r with
  | cons r rr =>
    rw [hs]
    refine assignInOrder_cons (thn (h1 pins s σ H _ _ _ I r h) fun _ s1 ⟨σ1, H1, I1, q1⟩ => ?_)
    exact h2 pins s1 σ1 H1 _ _ Q I1 rr q1
def gTup (K : PySem.W.Frag) (n : Nat) (t : TGs) : TG := fun v σ H Q => ∃ a xs, v = .ref a ∧ SqT K H a xs ∧ xs.length = n ∧ t xs σ H Q
theorem pg_tup {es : List Expr} {k : Nat} {t : TGs} {n : Nat} (hc : X.calm = true) (h : PGs X es t)
    (hn : (assignEach es X.env).length = n := by rfl) (hst : (assignEach es X.env).findIdx? (·.1) = none := by rfl) : PG X (.Tuple es k pos) (gTup X.K n t) := by
  intro pins s σ H v u Q I r hw
  obtain ⟨a, xs, e1, hq, hl, hw⟩ := hw
  subst e1
  cases r
  obtain ⟨its, rv, ht, hz⟩ := I.tuple hq
  refine assign_Tuple_tuple (I.ok.hd hc) ht (by simp [hn, ← hl, rv.length]) hst fun h' hx => ?_
  have I1 : Inv X pins σ H { s with heap := h' } := I.kept (t' := s.toks) fun b o e => hx b o (Nat.ne_of_lt (Heap.lt_size e)) e
  exact h pins _ σ H xs _ Q I1 (by simpa using rv) hw
def gSub (to ti : TE) (t : TSet) : TG := fun v σ H Q => to σ H fun o H1 => ti σ H1 fun i H2 => t o i v H2 fun H3 => Q σ H3
theorem pg_sub {o i : Expr} {to ti : TE} {t : TSet} (ho : PE X o to) (hi : PE X i ti) (hs : PSet X t)
    (ha : ∀ v, assign (.Subscript o i pos) X.env v = (do
      let ov ← holding [v] (eval o X.env)
      let iv ← holding [v, ov] (eval i X.env)
      standAt pos
      holding [v, ov, iv] (setItem ov iv v)
      release [v, ov, iv] []) := by intro _; rfl) : PG X (.Subscript o i pos) (gSub to ti t) := by
  intro pins s σ H v u Q I r h
  rw [ha]
  refine wpAny_bind (wpAny_holding (thn (ho pins s σ H _ I h) fun ov s1 ⟨x, H1, I1, r1, q1⟩ => ?_))
  refine wpAny_bind (wpAny_holding (thn (hi pins s1 σ H1 _ I1 q1) fun iv s2 ⟨y, H2, I2, r2, q2⟩ => ?_))
  refine wpAny_bind (wpAny_standAt (wpAny_bind (wpAny_holding (thn (hs pins s2 σ H2 x y v ov iv u _ I2 r1 r2 r q2) fun _ s3 ⟨H3, I3, q3⟩ => ?_))))
  exact wpAny_release ⟨σ, H3, I3, q3⟩
def tAsg (te : TE) (g : TG) : TS := fun D σ H => te σ H fun x H1 => g x σ H1 D.nx
theorem ps_asg {tg e : Expr} {te : TE} {g : TG} (he : PE X e te) (hg : PG X tg g) (hs : swapsWithSole [tg] e pos.line X.env = pure false := by rfl) (hw : swappedStores [tg] e X.env = pure none := by rfl)
    (h1 : (assignEach [tg] X.env).map (·.2) = [assign tg X.env] := by rfl) : PS X (.Assign [tg] e pos) (tAsg te g) := by
  intro pins s σ H D I h
  refine wpAny_Assign_stores (thn (he pins s σ H _ I h) fun v s1 ⟨x, H1, I1, r1, q1⟩ => ?_) hs hw
  rw [h1]
  exact thn (hg pins s1 σ H1 x v _ I1 r1 q1) fun _ s2 q => q
theorem ps_set {i : Nat} {x : Str} {e : Expr} {te : TE} {pos' : Pos} (hN : X.N.Nodup) (hi : X.N[i]? = some x) (hx : Loc X.env.scope x) (he : PE X e te) (hs : swapsWith e (some (.Name x pos')) pos.line X.env = pure false := by rfl) (hf : X.fn x = true ∨ X.env.scope.names.lookup x = some .local := by first | exact .inl rfl | exact .inr rfl | assumption) :
    PS X (.Assign [.Name x pos'] e pos) (tAsg te (gName i)) := by
  intro pins s σ H D I h
  refine wpAny_Assign_Name (thn (he pins s σ H _ I h) fun v s1 ⟨y, H1, I1, r1, q1⟩ => ?_) hs
  exact store_ok I1 hN hi hx r1 (fun s2 I2 => ⟨_, H1, I2, q1⟩) hf
def tPar (i j : Nat) (ta : TA) : TS := fun D σ H => ta σ H fun vs H1 => ∃ v w, vs = [v, w] ∧ D.nx ((σ.set i (some v)).set j (some w)) H1
theorem ps_par {i j : Nat} {x y : Str} {a b : Expr} {ta : TA} {px py pt : Pos} {kt k2 pt2} (hc : X.calm = true) (hN : X.N.Nodup) (hi : X.N[i]? = some x) (hj : X.N[j]? = some y) (hij : i ≠ j)
    (hx : X.env.scope.names.lookup x = some .local) (hy : X.env.scope.names.lookup y = some .local) (ha : PA X [a, b] ta)
    (hw : swappedStores [.Tuple [.Name x px, .Name y py] kt pt] (.Tuple [a, b] k2 pt2) X.env = pure (some [x, y]))
    (hs : swapsWithSole [.Tuple [.Name x px, .Name y py] kt pt] (.Tuple [a, b] k2 pt2) pos.line X.env = pure false := by rfl) :
    PS X (.Assign [.Tuple [.Name x px, .Name y py] kt pt] (.Tuple [a, b] k2 pt2) pos) (tPar i j ta) := by
  intro pins s σ H D I h
  rw [exec_Assign_arm]
  refine wpAny_bind (wpAny_standAt ?_)
  rw [hs]
  refine wpAny_bind (wpAny_pure ?_)
  rw [if_neg (by decide)]
  refine wpAny_bind (Tuple_ (thn (ha _ pins s σ H _ I h) fun us s1 ⟨vs, H1, I1, r1, q1⟩ => ?_))
  obtain ⟨v, w, e1, q1⟩ := q1
  subst e1
  obtain ⟨u1, u2, rfl, rv, rw'⟩ : ∃ u1 u2, us = [u1, u2] ∧ RelV v u1 ∧ RelV w u2 := by
    cases r1 with
    | cons p q =>
      cases q with
      | cons p' q' =>
        cases q'
        exact ⟨_, _, rfl, p, p'⟩
  refine wpAny_newObj_type ?_ (by show 2 ≤ sizeLine; decide)
  have I2 : Inv X pins σ H1 { s1 with heap := s1.heap.push { cls := .type "tuple", data := .seq [u1, u2].toArray } } := I1.kept (t' := s1.toks) fun b o e => Heap.get?_push_of_some _ e
  rw [hw]
  refine wpAny_bind (wpAny_pure ?_)
  show wpAny (model X.prog X.w) X.A (do rule "assign.swapped-stores"; let items ← unpackItems (.ref s1.heap.objs.size) 2 none; assignInOrder [fun v => bindName X.env y v, fun v => bindName X.env x v] items.reverse; pure Flow.next) _ _ _
  refine wpAny_bind (wpAny_rule (wpAny_bind (unpackItems_tuple (items := #[u1, u2]) (I.ok.hd hc) (IsTup.new s1.heap _) fun h' hx' => ?_)))
  have I3 := I2.kept (h' := h') (t' := s1.toks) fun b o e => hx' b o (Nat.ne_of_lt (Heap.lt_size e)) e
  show wpAny _ _ (assignInOrder [fun v => bindName X.env y v, fun v => bindName X.env x v] [u2, u1] >>= fun _ => pure Flow.next) _ _ _
  refine wpAny_bind (assignInOrder_cons (wpAny_bindName (store_ok I3 hN hj (.inl hy) rw' (fun s2 I4 => ?_) (.inr hy))))
  refine assignInOrder_cons (wpAny_bindName (store_ok I4 hN hi (.inl hx) rv (fun s3 I5 => assignInOrder_nil (wpAny_pure ?_)) (.inr hx)))
  rw [List.set_comm _ _ (Ne.symm hij)] at I5
  exact ⟨_, H1, I5, q1⟩
def tAug (i : Nat) (te : TE) (ti : TIp) : TS := fun D σ H => ∃ x, σ[i]? = some (some x) ∧ te σ H fun y H1 => ti x y H1 fun z H2 => D.nx (σ.set i (some z)) H2
def tAugS (to ti te : TE) (tget : V → V → Hp → VK → Prop) (tip : TIp) (tset : TSet) : TS := fun D σ H => to σ H fun o H1 => ti σ H1 fun i H2 => tget o i H2 fun x H3 => te σ H3 fun y H4 => tip x y H4 fun z H5 => tset o i z H5 fun H6 => D.nx σ H6
def PGet (X : Cx) (t : V → V → Hp → VK → Prop) : Prop :=
  ∀ (pins : List (Addr × Obj)) (s : Shared) (σ : St) (H : Hp) (o i : V) (ov iv : Value) (Q : VK), Inv X pins σ H s → RelV o ov → RelV i iv → t o i H Q →
    wpAny (model X.prog X.w) X.A (getItem ov iv) (EP X pins σ Q) X.xe s
end

section
variable {X : Cx} {pos : Pos}
def tWhile (c : TT) (tb : TS) : TS := fun D σ H => ∃ W : Nat → St → Hp → Prop, (∃ m, W m σ H) ∧ ∀ m σ H, W m σ H →
  c σ H fun b H1 => if b = true then ∃ N : St → Hp → Prop, (∀ σ' H', N σ' H' → ∃ m', m' < m ∧ W m' σ' H') ∧ tb { D with nx := N, ct := N, bk := D.nx } σ H1 else D.nx σ H1
theorem ps_while {c : Expr} {body : List Stmt} {tc : TT} {tb : TS} (hp : PassesOwn (model X.prog X.w) X.A X.env X.xe) (hc : PT X c tc) (hb : PSs X body tb) : PS X (.While c body [] pos) (tWhile tc tb) := by
  intro pins s σ H D I h
  obtain ⟨W, ⟨m0, w0⟩, turn⟩ := h
  refine wpAny_While (codeAny_whileLoop (fun n s' => ∃ σ' H', Inv X pins σ' H' s' ∧ W n σ' H') ?_ m0 ⟨σ, H, I, w0⟩)
  rintro n s1 ⟨σ1, H1, I1, w1⟩
  refine wpAny_passesOwn hp (thn (hc pins s1 σ1 H1 _ I1 (turn n σ1 H1 w1)) fun b s2 ⟨H2, I2, q2⟩ => ?_)
  cases b with
  | true =>
    obtain ⟨N, hN, q2⟩ := q2
    rw [if_pos rfl]
    refine wpAny_passesOwn hp (thn (hb pins s2 σ1 H2 _ I2 q2) fun f s3 q3 => ?_)
    cases f with
    | next =>
      obtain ⟨σ3, H3, I3, n3⟩ := q3
      obtain ⟨m', hm, w3⟩ := hN σ3 H3 n3
      exact ⟨m', hm, σ3, H3, I3, w3⟩
    | cont =>
      obtain ⟨σ3, H3, I3, n3⟩ := q3
      obtain ⟨m', hm, w3⟩ := hN σ3 H3 n3
      exact ⟨m', hm, σ3, H3, I3, w3⟩
    | brk => exact q3
    | ret v => exact q3
  | false =>
    rw [if_neg Bool.false_ne_true]
    exact wpAny_execs_nil ⟨σ1, H2, I2, q2⟩
end

structure It where
  go : Nat → Hp → Prop
  yld : Nat → Hp → V → Hp → Prop
  stop : Nat → Hp → Prop
def FpOk (X : Cx) (pins : List (Addr × Obj)) (H : Hp) (b : Addr) : Prop :=
  H b = none ∧ b ≠ X.env.locals ∧ b ∉ X.fs ∧ (b ∈ X.ex ∨ X.s_0.heap.objs.size ≤ b) ∧ (∀ x c, X.env.cells.lookup x = some c → c ≠ b) ∧ ∀ p ∈ X.pn ++ pins, p.1 ≠ b
theorem Inv.fpOk {X : Cx} {pins : List (Addr × Obj)} {σ : St} {H H' : Hp} {s : Shared} {b : Addr} (I : Inv X pins σ H s) (hb : s.heap.objs.size ≤ b) (hn : H' b = none) : FpOk X pins H' b := by
  refine ⟨hn, Nat.ne_of_gt (Nat.lt_of_lt_of_le I.lt hb), I.nofs hb, .inr (Nat.le_trans I.sz hb), fun x c e z => ?_, fun p hp z => ?_⟩
  · obtain ⟨v, q⟩ := I.cell x c e
    exact absurd (Nat.lt_of_lt_of_le q.lt (by rw [z]; exact hb)) (Nat.lt_irrefl _)
  · exact absurd (Nat.lt_of_lt_of_le (Heap.lt_size (I.pin p hp).1) (by rw [z]; exact hb)) (Nat.lt_irrefl _)
structure Turn (P : Program) (w : World) (K : PySem.W.Frag) (tg : Expr) (J : It) (fp : List Addr) (it : Addr) (tn : Nat → Heap → Prop) : Prop where
  mem : it ∈ fp
  obj : ∀ i h, tn i h → ∀ b ∈ fp, ∃ o, h.get? b = some o ∧ ∀ v, o.data ≠ .cell v
  keep : ∀ i h h', tn i h → (∀ b ∈ fp, ∀ o, h.get? b = some o → h'.get? b = some o) → tn i h'
  item : ∀ (X : Cx), X.prog = P → X.w = w → X.K = K → X.calm = true → ∀ (i : Nat) (pins : List (Addr × Obj)) (s : Shared) (σ : St) (H : Hp) (E : Value → Shared → Prop), Inv X pins σ H s → (∀ b ∈ fp, FpOk X pins H b) → tn i s.heap → J.go i H →
    wpAny (model P w) X.A (pyNext (.ref it)) (fun r s1 => ∃ u, r = some u ∧
      wpAny (model P w) X.A (letOwnedTupleGo tg (.ref it) u) (fun _ s2 => ∃ x H', Inv X pins σ H' s2 ∧ RelV x u ∧ J.yld i H x H' ∧ tn (i + 1) s2.heap ∧ ∀ b ∈ fp, H' b = none) E s1) E s
  done : ∀ (X : Cx), X.prog = P → X.w = w → X.K = K → X.calm = true → ∀ (i : Nat) (pins : List (Addr × Obj)) (s : Shared) (σ : St) (H : Hp) (E : Value → Shared → Prop), Inv X pins σ H s → (∀ b ∈ fp, FpOk X pins H b) → tn i s.heap → J.stop i H →
    wpAny (model P w) X.A (pyNext (.ref it)) (fun r s1 => r = none ∧ Inv X pins σ H s1) E s
  self : ∀ (A : Around) (i : Nat) (s : Shared) (Q : Value → Shared → Prop) (E : Value → Shared → Prop), tn i s.heap → Q (.ref it) s → wpAny (model P w) A (pyIter (.ref it)) Q E s
abbrev TI := St → Hp → (It → Hp → Prop) → Prop
def PIE (X : Cx) (pins : List (Addr × Obj)) (σ : St) (tg : Expr) (R : It → Hp → Prop) (itv : Value) (s2 : Shared) : Prop :=
  ∃ (it : Addr) (fp : List Addr) (tn : Nat → Heap → Prop) (J : It) (H' : Hp), itv = .ref it ∧ Inv X pins σ H' s2 ∧ Turn X.prog X.w X.K tg J fp it tn ∧ tn 0 s2.heap ∧ (∀ b ∈ fp, FpOk X pins H' b) ∧ R J H'
def PI (X : Cx) (tg iter : Expr) (wi : TI) : Prop :=
  ∀ (pins : List (Addr × Obj)) (s : Shared) (σ : St) (H : Hp) (R : It → Hp → Prop), Inv X pins σ H s → wi σ H R →
    wpAny (model X.prog X.w) X.A (eval iter X.env) (fun v s1 => wpAny (model X.prog X.w) X.A (pyIter v) (PIE X pins σ tg R) X.xe s1) X.xe s

theorem go_of {M : Model} {A : Around} {E : Value → Shared → Prop} {s : Shared} {tg : Expr} {it : Addr} {u : Value} {o : Obj} {n : String} {vs : Array Value} {Q : Unit → Shared → Prop} (ho : s.heap.get? it = some o) (hc : o.cls = .type n) (hd : o.data = .fields vs)
    (hn : ["enumerate", "zip", "dict_itemiterator", "dict_reverseitemiterator", "odict_iterator", "itertools.zip_longest", "itertools.pairwise"].contains n = false) (hQ : Q () s) : wpAny M A (letOwnedTupleGo tg (.ref it) u) Q E s := by
  unfold letOwnedTupleGo
  cases tg <;> first
    | exact wpAny_pure hQ
    | (cases u <;> first
        | exact wpAny_pure hQ
        | (refine wpAny_bind (wpAny_load ho ?_)
           rw [hc, hd]
           show wpAny M A (if (["enumerate", "zip", "dict_itemiterator", "dict_reverseitemiterator", "odict_iterator", "itertools.zip_longest", "itertools.pairwise"].contains n && vs[0]? == some (rawInt _)) = true then _ else _) Q E s
           rw [if_neg (by intro h; rw [hn, Bool.false_and] at h; cases h)]
           exact wpAny_pure hQ))

def Itl (K : PySem.W.Frag) (a : Addr) : It :=
  ⟨fun i H => ∃ xs x, SqL K H a xs ∧ xs[i]? = some x, fun i H x H' => H' = H ∧ ∀ xs, SqL K H a xs → xs[i]? = some x, fun i H => ∃ xs, SqL K H a xs ∧ xs.length ≤ i⟩
def Itt (K : PySem.W.Frag) (a : Addr) : It :=
  ⟨fun i H => ∃ xs x, SqT K H a xs ∧ xs[i]? = some x, fun i H x H' => H' = H ∧ ∀ xs, SqT K H a xs → xs[i]? = some x, fun i H => ∃ xs, SqT K H a xs ∧ xs.length ≤ i⟩
def Itr (lo : Int) (n : Nat) : It := ⟨fun i _ => i < n, fun i H x H' => H' = H ∧ x = .int (lo + i), fun i _ => n ≤ i⟩
theorem turn_list {P : Program} {w : World} {K : PySem.W.Frag} {tg : Expr} (a it : Addr) : Turn P w K tg (Itl K a) [it] it (fun i h => h.IsListIter it a i) where
  mem := by simp
  obj := fun i h st b hb => by
    have e : b = it := by simpa using hb
    subst e
    obtain ⟨o, e, c, d⟩ := st
    exact ⟨o, e, fun v z => by rw [d] at z; cases z⟩
  keep := fun i h h' st k => st.at fun o e => k it (by simp) o e
  item := by
    intro X hP hw hK hc i pins s σ H E I hf st hg
    subst hP hw hK
    obtain ⟨xs, x, hq, hx⟩ := hg
    obtain ⟨its, rv, p, hz⟩ := I.list hq
    obtain ⟨u, hu, ru⟩ := rv.get hx
    obtain ⟨f0, f1, f2, f3, f4, f5⟩ := hf it (by simp)
    refine wpAny_pyNext_list_item st p.isList (x := u) (by simpa using hu) fun h' st' sb => ?_
    have I1 : Inv X pins σ H { s with heap := h' } := I.turned (t' := s.toks) (fun b o hb e => (sb.2 b hb).trans e) f0 f1 f3 f4 f5
    obtain ⟨o, e, c, d⟩ := id st'
    exact ⟨u, rfl, go_of (s := { s with heap := h' }) e c d (by decide) ⟨x, H, I1, ru, ⟨rfl, fun ys hy => by rw [I.list_inj hy hq]; exact hx⟩, st', fun b hb => (hf b hb).1⟩⟩
  done := by
    intro X hP hw hK hc i pins s σ H E I hf st hg
    subst hP hw hK
    obtain ⟨xs, hq, hx⟩ := hg
    obtain ⟨its, rv, p, hz⟩ := I.list hq
    obtain ⟨f0, f1, f2, f3, f4, f5⟩ := hf it (by simp)
    have hl := rv.length
    exact wpAny_pyNext_list_end (I.ok.hd hc) st p.isList (by simp; omega) fun h' eb => ⟨rfl, I.turned (t' := s.toks) (fun b o hb e => eb b o hb e) f0 f1 f3 f4 f5⟩
  self := fun _ _ _ _ _ st h => wpAny_pyIter_listiter st h
theorem turn_tuple {P : Program} {w : World} {K : PySem.W.Frag} {tg : Expr} (a it : Addr) : Turn P w K tg (Itt K a) [it] it (fun i h => h.IsTupleIter it a i) where
  mem := by simp
  obj := fun i h st b hb => by
    have e : b = it := by simpa using hb
    subst e
    obtain ⟨o, e, c, d⟩ := st
    exact ⟨o, e, fun v z => by rw [d] at z; cases z⟩
  keep := fun i h h' st k => st.at fun o e => k it (by simp) o e
  item := by
    intro X hP hw hK hc i pins s σ H E I hf st hg
    subst hP hw hK
    obtain ⟨xs, x, hq, hx⟩ := hg
    obtain ⟨its, rv, p, hz⟩ := I.tuple hq
    obtain ⟨u, hu, ru⟩ := rv.get hx
    obtain ⟨f0, f1, f2, f3, f4, f5⟩ := hf it (by simp)
    refine wpAny_pyNext_tuple_item st (show s.heap.IsTuple a its.toArray from p) (x := u) (by simpa using hu) fun h' st' sb => ?_
    have I1 : Inv X pins σ H { s with heap := h' } := I.turned (t' := s.toks) (fun b o hb e => (sb.2 b hb).trans e) f0 f1 f3 f4 f5
    obtain ⟨o, e, c, d⟩ := id st'
    exact ⟨u, rfl, go_of (s := { s with heap := h' }) e c d (by decide) ⟨x, H, I1, ru, ⟨rfl, fun ys hy => by rw [I.tuple_inj hy hq]; exact hx⟩, st', fun b hb => (hf b hb).1⟩⟩
  done := by
    intro X hP hw hK hc i pins s σ H E I hf st hg
    subst hP hw hK
    obtain ⟨xs, hq, hx⟩ := hg
    obtain ⟨its, rv, p, hz⟩ := I.tuple hq
    obtain ⟨f0, f1, f2, f3, f4, f5⟩ := hf it (by simp)
    have hl := rv.length
    exact wpAny_pyNext_tuple_end (I.ok.hd hc) st (show s.heap.IsTuple a its.toArray from p) (by simp; omega) fun h' eb => ⟨rfl, I.turned (t' := s.toks) (fun b o hb e => eb b o hb e) f0 f1 f3 f4 f5⟩
  self := fun _ _ _ _ _ st h => wpAny_pyIter_tupleiter st h
theorem turn_range {P : Program} {w : World} {K : PySem.W.Frag} {tg : Expr} (it : Addr) (lo : Int) (n : Nat) : Turn P w K tg (Itr lo n) [it] it (fun i h => IsRangeIter h it (lo + (i : Nat) * 1) ((n : Int) - (i : Nat)) 1) where
  mem := by simp
  obj := fun i h st b hb => by
    have e : b = it := by simpa using hb
    subst e
    exact ⟨_, st, fun v z => by
      have z' : Data.fields _ = Data.cell v := z
      cases z'⟩
  keep := fun i h h' st k => k it (by simp) _ st
  item := by
    intro X hP hw hK hc i pins s σ H E I hf st hg
    subst hP hw hK
    obtain ⟨f0, f1, f2, f3, f4, f5⟩ := hf it (by simp)
    have W := Walks.range (prog := X.prog) (w := X.w) (I.ok.hd hc) it lo 1 n
    refine W.item i s _ _ hg st fun v h' tk hv st' kk => ?_
    obtain ⟨t, rfl⟩ := hv
    have I1 : Inv X pins σ H { s with heap := h', toks := tk } := I.turned (fun b o hb e => kk b o (by simpa using hb) e) f0 f1 f3 f4 f5
    refine ⟨_, rfl, go_of (s := { s with heap := h', toks := tk }) (n := "range_iterator") st' rfl rfl (by decide) ⟨.int (lo + i), H, I1, ⟨t, ?_⟩, ⟨rfl, rfl⟩, st', fun b hb => (hf b hb).1⟩⟩
    rw [Int.mul_one]
  done := by
    intro X hP hw hK hc i pins s σ H E I hf st hg
    subst hP hw hK
    obtain ⟨f0, f1, f2, f3, f4, f5⟩ := hf it (by simp)
    exact wpAny_pyNext_range_end (I.ok.hd hc) st (by have : n ≤ i := hg; omega) fun h' eb => ⟨rfl, I.turned (t' := s.toks) (fun b o hb e => eb b o hb e) f0 f1 f3 f4 f5⟩
  self := fun _ _ _ _ _ st h => wpAny_pyIter_rangeiter st h
end L2

namespace L2
open PySem PySem.Spec PyProof.Rows
section
variable {X : Cx} {tg : Expr}
theorem range_it {pins : List (Addr × Obj)} {σ : St} {H : Hp} {s : Shared} {R : It → Hp → Prop} {E : Value → Shared → Prop} {lo hi : Int} {t u v : Tok} {tk : Nat} (I : Inv X pins σ H s) (h1 : -(2 ^ 62) ≤ lo) (h2 : lo < 2 ^ 62) (h3 : -(2 ^ 62) ≤ hi) (h4 : hi < 2 ^ 62)
    (q : R (Itr lo (hi - lo).toNat) H) : wpAny (model X.prog X.w) X.A (pyIter (.ref s.heap.objs.size)) (PIE X pins σ tg R) E { s with heap := s.heap.push { cls := .type "range", data := .fields #[.int lo t, .int hi u, .int 1 v] }, toks := tk } := by
  refine wpAny_pyIter_range (IsRange.new ..) (small_one h1 h2 h3 h4) ?_
  have I1 : Inv X pins σ H { s with heap := s.heap.push { cls := .type "range", data := .fields #[.int lo t, .int hi u, .int 1 v] }, toks := tk } := I.kept fun b o e => Heap.get?_push_of_some _ e
  refine ⟨(s.heap.push { cls := .type "range", data := .fields #[.int lo t, .int hi u, .int 1 v] }).objs.size, [(s.heap.push { cls := .type "range", data := .fields #[.int lo t, .int hi u, .int 1 v] }).objs.size], _, _, H, rfl,
    I1.kept (t' := tk) fun b o e => Heap.get?_push_of_some _ e, turn_range _ lo (hi - lo).toNat, ?_, fun b hb => ?_, q⟩
  · have e1 : lo + ((0 : Nat) : Int) * 1 = lo := by simp
    have e2 : (((hi - lo).toNat : Nat) : Int) - ((0 : Nat) : Int) = Builtin.Range.rangeSize lo hi 1 := by rw [rangeSize_one]; split <;> omega
    show IsRangeIter _ _ (lo + ((0 : Nat) : Int) * 1) ((((hi - lo).toNat : Nat) : Int) - ((0 : Nat) : Int)) 1
    rw [e1, e2]
    exact Heap.get?_push_size _ rfl
  · have e : b = (s.heap.push { cls := .type "range", data := .fields #[.int lo t, .int hi u, .int 1 v] }).objs.size := by simpa using hb
    subst e
    exact I1.fpOk (Nat.le_refl _) (I1.hok.fresh (Nat.le_refl _))
def iRng1 (ta : TA) : TI := fun σ H R => ta σ H fun vs H1 => ∃ j : Int, vs = [.int j] ∧ -(2 ^ 62) ≤ j ∧ j < 2 ^ 62 ∧ R (Itr 0 j.toNat) H1
def iRng2 (ta : TA) : TI := fun σ H R => ta σ H fun vs H1 => ∃ i j : Int, vs = [.int i, .int j] ∧ (-(2 ^ 62) ≤ i ∧ i < 2 ^ 62 ∧ -(2 ^ 62) ≤ j ∧ j < 2 ^ 62) ∧ R (Itr i (j - i).toNat) H1
theorem pi_range1 {a : Expr} {ta : TA} {p pos : Pos} (hg : Gl X "range") (hm : X.mg "range" = none) (ha : PA X [a] ta) (hs : starEach [a] X.env = [(false, eval a X.env)] := by rfl) : PI X tg (.Call (.Name "range" p) [a] [] pos) (iRng1 ta) := by
  intro pins s σ H R I h
  refine Call_ (ld_blt I hg hm boot_range (PyProof.Rows.callWith_type1 (thn (ha pos pins s σ H _ I h) fun us s1 ⟨vs, H1, I1, r1, q1⟩ => ?_) hs rfl))
  obtain ⟨j, e, q1, q2, q⟩ := q1
  subst e
  cases r1 with
  | cons r rr =>
    cases rr
    obtain ⟨t, rfl⟩ := r
    exact call_range_1 (range_it I1 (by omega) (by omega) q1 q2 (by simpa using q))
def tFor (wi : TI) (g : TG) (tb : TS) : TS := fun D σ H => wi σ H fun J H1 => ∃ W : Nat → Nat → St → Hp → Prop, (∃ m, W 0 m σ H1) ∧ ∀ i m σ H, W i m σ H →
  (J.stop i H ∧ D.nx σ H) ∨ (J.go i H ∧ ∃ N : St → Hp → Prop, (∀ σ' H', N σ' H' → ∃ m', m' < m ∧ W (i + 1) m' σ' H') ∧ ∀ x H', J.yld i H x H' → g x σ H' fun σ2 H2 => tb { D with nx := N, ct := N, bk := D.nx } σ2 H2)
def pinsAt (fp : List Addr) (h : Heap) : List (Addr × Obj) := fp.filterMap fun b => (h.get? b).map fun o => (b, o)
theorem mem_pinsAt {fp : List Addr} {h : Heap} {b : Addr} {o : Obj} (hb : b ∈ fp) (e : h.get? b = some o) : (b, o) ∈ pinsAt fp h := List.mem_filterMap.mpr ⟨b, hb, by rw [e]; rfl⟩
theorem of_pinsAt {fp : List Addr} {h : Heap} {p : Addr × Obj} (hp : p ∈ pinsAt fp h) : p.1 ∈ fp ∧ h.get? p.1 = some p.2 := by
  obtain ⟨b, hb, e⟩ := List.mem_filterMap.mp hp
  cases q : h.get? b with
  | none => rw [q] at e; cases e
  | some o =>
    rw [q] at e
    have e' : (b, o) = p := Option.some.inj e
    subst e'
    exact ⟨hb, q⟩
theorem Inv.pinned {pins : List (Addr × Obj)} {σ : St} {H : Hp} {s : Shared} {fp : List Addr} (I : Inv X pins σ H s) (hf : ∀ b ∈ fp, FpOk X pins H b) (ho : ∀ b ∈ fp, ∃ o, s.heap.get? b = some o ∧ ∀ v, o.data ≠ .cell v) : Inv X (pins ++ pinsAt fp s.heap) σ H s :=
  I.pins_of fun p hp => (List.mem_append.mp hp).elim (fun z => I.pin p (List.mem_append_right _ z)) fun z => by
    obtain ⟨hb, e⟩ := of_pinsAt z
    obtain ⟨f0, f1, f2, _⟩ := hf p.1 hb
    obtain ⟨o, e', d⟩ := ho p.1 hb
    rw [e] at e'; cases e'
    exact ⟨e, f0, f1, f2, d⟩
theorem Inv.unpinned {pins pl : List (Addr × Obj)} {σ : St} {H : Hp} {s : Shared} (I : Inv X (pins ++ pl) σ H s) : Inv X pins σ H s := I.pins_of fun p hp => I.pin p (List.mem_append_right _ (List.mem_append_left _ hp))
theorem ps_for {iter : Expr} {body : List Stmt} {wi : TI} {g : TG} {tb : TS} {pos : Pos} (hp : PassesOwn (model X.prog X.w) X.A X.env X.xe) (hc : X.calm = true) (hi : PI X tg iter wi) (hg : PG X tg g) (hb : PSs X body tb)
    (hs : ∀ x, foldedSetIterable iter X.env x = pure x := by intro _; rfl) : PS X (.For tg iter body [] pos) (tFor wi g tb) := by
  intro pins s σ H D I h
  refine wpAny_For (thn (hi pins s σ H _ I h) fun v s1 h1 => thn h1 fun itv s2 h2 => ?_) hs
  obtain ⟨it, fp, tn, J, H2, e, I2, T, st2, f2, W, ⟨m0, w0⟩, turn⟩ := h2
  subst e
  -- what stays true of the iterator's objects through the loop
  have stat : ∀ {H' : Hp}, (∀ b ∈ fp, H' b = none) → ∀ b ∈ fp, FpOk X pins H' b := fun hn b hb => ⟨hn b hb, (f2 b hb).2⟩
  refine codeAny_forLoop_any (fun n s' => ∃ i σ' H', Inv X pins σ' H' s' ∧ tn i s'.heap ∧ (∀ b ∈ fp, H' b = none) ∧ W i n σ' H') ?_ m0 ⟨0, σ, H2, I2, st2, fun b hb => (f2 b hb).1, w0⟩
  rintro n s3 ⟨i, σ3, H3, I3, st3, fr3, w3⟩
  rcases turn i n σ3 H3 w3 with ⟨stop, qn⟩ | ⟨go, N, hN, step⟩
  · refine wpAny_passesOwn hp (thn (T.done X rfl rfl rfl hc i pins s3 σ3 H3 X.xe I3 (stat fr3) st3 stop) fun r s4 ⟨hr, I4⟩ => ?_)
    subst hr
    exact wpAny_execs_nil ⟨σ3, H3, I4, qn⟩
  · refine wpAny_passesOwn hp (thn (T.item X rfl rfl rfl hc i pins s3 σ3 H3 X.xe I3 (stat fr3) st3 go) fun r s4 ⟨u, hr, h4⟩ => ?_)
    subst hr
    refine wpAny_passesOwn hp (thn h4 fun _ s5 ⟨x, H5, I5, r5, y5, st5, fr5⟩ => ?_)
    have I5' := I5.pinned (stat fr5) (T.obj _ _ st5)
    refine wpAny_passesOwn hp (thn (hg _ s5 σ3 H5 x u _ I5' r5 (step x H5 y5)) fun _ s6 ⟨σ6, H6, I6, q6⟩ => ?_)
    refine wpAny_passesOwn hp (thn (hb _ s6 σ6 H6 _ I6 q6) fun f s7 q7 => ?_)
    have again : ∀ {σ7 : St} {H7 : Hp}, Inv X (pins ++ pinsAt fp s5.heap) σ7 H7 s7 → N σ7 H7 → ∃ m, m < n ∧ ∃ i σ' H', Inv X pins σ' H' s7 ∧ tn i s7.heap ∧ (∀ b ∈ fp, H' b = none) ∧ W i m σ' H' := fun {σ7 H7} I7 n7 => by
      obtain ⟨m', hm, w7⟩ := hN σ7 H7 n7
      refine ⟨m', hm, i + 1, σ7, H7, I7.unpinned, T.keep _ _ _ st5 fun b hb o e => (I7.pin (b, o) (List.mem_append_right _ (List.mem_append_right _ (mem_pinsAt hb e)))).1, fun b hb => ?_, w7⟩
      obtain ⟨o, e, d⟩ := T.obj _ _ st5 b hb
      exact (I7.pin (b, o) (List.mem_append_right _ (List.mem_append_right _ (mem_pinsAt hb e)))).2.1
    cases f with
    | next => obtain ⟨σ7, H7, I7, n7⟩ := q7; exact again I7 n7
    | cont => obtain ⟨σ7, H7, I7, n7⟩ := q7; exact again I7 n7
    | brk => obtain ⟨σ7, H7, I7, q7⟩ := q7; exact ⟨σ7, H7, I7.unpinned, q7⟩
    | ret v => obtain ⟨x7, σ7, H7, I7, r7, q7⟩ := q7; exact ⟨x7, σ7, H7, I7.unpinned, r7, q7⟩
end

theorem for_range {lo : Int} {n : Nat} {g : TG} {tb : TS} {D : Ends} {σ : St} {H : Hp} (Pv : Nat → St → Hp → Prop) (h0 : Pv 0 σ H)
    (hs : ∀ i σ H, i < n → Pv i σ H → g (.int (lo + i)) σ H fun σ2 H2 => tb { D with nx := Pv (i + 1), ct := Pv (i + 1), bk := D.nx } σ2 H2) (hd : ∀ σ H, Pv n σ H → D.nx σ H) :
    ∃ W : Nat → Nat → St → Hp → Prop, (∃ m, W 0 m σ H) ∧ ∀ i m σ H, W i m σ H →
      ((Itr lo n).stop i H ∧ D.nx σ H) ∨ ((Itr lo n).go i H ∧ ∃ N : St → Hp → Prop, (∀ σ' H', N σ' H' → ∃ m', m' < m ∧ W (i + 1) m' σ' H') ∧ ∀ x H', (Itr lo n).yld i H x H' → g x σ H' fun σ2 H2 => tb { D with nx := N, ct := N, bk := D.nx } σ2 H2) := by
  refine ⟨fun i m σ H => m = n - i ∧ i ≤ n ∧ Pv i σ H, ⟨n, by simp, Nat.zero_le _, h0⟩, ?_⟩
  rintro i m σ H ⟨rfl, hi, p⟩
  by_cases hlt : i < n
  · refine .inr ⟨hlt, Pv (i + 1), fun σ' H' p' => ⟨n - (i + 1), by omega, rfl, hlt, p'⟩, fun x H' y => ?_⟩
    obtain ⟨e, y⟩ := y
    subst e y
    exact hs i σ _ hlt p
  · have e : i = n := by omega
    subst e
    exact .inl ⟨Nat.le_refl _, hd σ H p⟩
end L2

namespace L2
open PySem PySem.Spec PyProof.Rows

abbrev R2 := V → V → Hp → VK → Prop
def OpR (X : Cx) (f : Value → Value → Sem Value) (r : R2) : Prop :=
  ∀ (pins : List (Addr × Obj)) (s : Shared) (σ : St) (H : Hp) (x y : V) (v u : Value) (Q : VK), Inv X pins σ H s → RelV x v → RelV y u → r x y H Q →
    wpAny (model X.prog X.w) X.A (f v u) (EP X pins σ Q) X.xe s
def UnR (X : Cx) (f : Value → Sem Value) (r : V → Hp → VK → Prop) : Prop :=
  ∀ (pins : List (Addr × Obj)) (s : Shared) (σ : St) (H : Hp) (x : V) (v : Value) (Q : VK), Inv X pins σ H s → RelV x v → r x H Q →
    wpAny (model X.prog X.w) X.A (f v) (EP X pins σ Q) X.xe s
def CallR (X : Cx) (f : Value) (r : List V → Hp → VK → Prop) : Prop :=
  ∀ (pins : List (Addr × Obj)) (s : Shared) (σ : St) (H : Hp) (xs : List V) (us : List Value) (Q : VK), Inv X pins σ H s → Vals xs us → r xs H Q →
    wpAny (model X.prog X.w) X.A (call f us) (EP X pins σ Q) X.xe s
def TruR (X : Cx) (r : V → Hp → (Bool → Hp → Prop) → Prop) : Prop :=
  ∀ (pins : List (Addr × Obj)) (s : Shared) (σ : St) (H : Hp) (x : V) (v : Value) (Q : Bool → Hp → Prop), Inv X pins σ H s → RelV x v → r x H Q →
    wpAny (model X.prog X.w) X.A (truthy v) (TP X pins σ Q) X.xe s

def tOp (r : R2) (ta tb : TE) : TE := fun σ H Q => ta σ H fun x H1 => tb σ H1 fun y H2 => r x y H2 Q
def tUn (r : V → Hp → VK → Prop) (ta : TE) : TE := fun σ H Q => ta σ H fun x H1 => r x H1 Q
def rI (C : Int → Int → Prop) (g : Int → Int → V) : R2 := fun x y H Q => ∃ i j, x = .int i ∧ y = .int j ∧ C i j ∧ Q (g i j) H
def rI0 (g : Int → Int → V) : R2 := fun x y H Q => ∃ i j, x = .int i ∧ y = .int j ∧ Q (g i j) H
def rU (g : Int → V) : V → Hp → VK → Prop := fun x H Q => ∃ i, x = .int i ∧ Q (g i) H

section
variable {X : Cx} {a b c : Expr} {ta tb tc : TE} {pos : Pos}

theorem binT (ha : PE X a ta) (hb : PE X b tb) {pins : List (Addr × Obj)} {s : Shared} {σ : St} {H : Hp} {R : V → V → Hp → Prop} (I : Inv X pins σ H s)
    (h : ta σ H fun x H1 => tb σ H1 fun y H2 => R x y H2) {Q : Value → Shared → Prop} {f : Value → Value → Sem Value}
    (hf : ∀ v u s2 x y H2, Inv X pins σ H2 s2 → RelV x v → RelV y u → R x y H2 → wpAny (model X.prog X.w) X.A (f v u) Q X.xe s2) :
    wpAny (model X.prog X.w) X.A (eval a X.env) (fun v s₁ => wpAny (model X.prog X.w) X.A (eval b X.env) (fun u s₂ => wpAny (model X.prog X.w) X.A (f v u) Q X.xe s₂) X.xe s₁) X.xe s := by
  refine thn (ha pins s σ H _ I h) fun v s1 ⟨x, H1, I1, r1, q1⟩ => ?_
  refine thn (hb pins s1 σ H1 _ I1 q1) fun u s2 ⟨y, H2, I2, r2, q2⟩ => ?_
  exact hf v u s2 x y H2 I2 r1 r2 q2

theorem pe_op {op : Operator} {r : R2} (ho : OpR X (binaryOp op) r) (ha : PE X a ta) (hb : PE X b tb) : PE X (.BinOp a op b pos) (tOp r ta tb) := by
  intro pins s σ H Q I h
  exact wpAny_BinOp (binT ha hb I h fun v u s2 x y H2 I2 rx ry q => ho pins s2 σ H2 x y v u Q I2 rx ry q)
theorem pe_un {op : UnaryOp} {r : V → Hp → VK → Prop} (ho : UnR X (unaryOp op) r) (ha : PE X a ta) : PE X (.UnaryOp op a pos) (tUn r ta) := by
  intro pins s σ H Q I h
  exact UnaryOp_ (thn (ha pins s σ H _ I h) fun v s1 ⟨x, H1, I1, r1, q1⟩ => ho pins s1 σ H1 x v Q I1 r1 q1)
theorem opI {f : Value → Value → Sem Value} {C : Int → Int → Prop} {g : Int → Int → Int}
    (rule : ∀ (i j : Int) (t u : Tok) (s : Shared) (Q : Value → Shared → Prop) (E : Value → Shared → Prop), C i j → Q (.int (g i j) s.toks) { s with toks := s.toks + 1 } → wpAny (model X.prog X.w) X.A (f (.int i t) (.int j u)) Q E s) :
    OpR X f (rI C fun i j => .int (g i j)) := by
  intro pins s σ H x y v u Q I rx ry h
  obtain ⟨i, j, rfl, rfl, hc, q⟩ := h
  obtain ⟨t, rfl⟩ := rx
  obtain ⟨t', rfl⟩ := ry
  exact rule i j t t' s _ _ hc ⟨.int (g i j), H, I.tok _, ⟨_, rfl⟩, q⟩
theorem opI0 {f : Value → Value → Sem Value} {g : Int → Int → Int}
    (rule : ∀ (i j : Int) (t u : Tok) (s : Shared) (Q : Value → Shared → Prop) (E : Value → Shared → Prop), Q (.int (g i j) s.toks) { s with toks := s.toks + 1 } → wpAny (model X.prog X.w) X.A (f (.int i t) (.int j u)) Q E s) :
    OpR X f (rI0 fun i j => .int (g i j)) := by
  intro pins s σ H x y v u Q I rx ry h
  obtain ⟨i, j, rfl, rfl, q⟩ := h
  obtain ⟨t, rfl⟩ := rx
  obtain ⟨t', rfl⟩ := ry
  exact rule i j t t' s _ _ ⟨.int (g i j), H, I.tok _, ⟨_, rfl⟩, q⟩
theorem opB0 {f : Value → Value → Sem Value} {g : Int → Int → Bool}
    (rule : ∀ (i j : Int) (t u : Tok) (s : Shared) (Q : Value → Shared → Prop) (E : Value → Shared → Prop), Q (.bool (g i j)) s → wpAny (model X.prog X.w) X.A (f (.int i t) (.int j u)) Q E s) :
    OpR X f (rI0 fun i j => .bl (g i j)) := by
  intro pins s σ H x y v u Q I rx ry h
  obtain ⟨i, j, rfl, rfl, q⟩ := h
  obtain ⟨t, rfl⟩ := rx
  obtain ⟨t', rfl⟩ := ry
  exact rule i j t t' s _ _ ⟨.bl (g i j), H, I, rfl, q⟩

def CPow (i j : Int) : Prop := 0 ≤ j ∧ j ≤ 1000000 ∧ i.natAbs < 2 ^ 64
def CMul (i j : Int) : Prop := (-(2 ^ 64) < i ∧ i < 2 ^ 64) ∨ (-(2 ^ 64) < j ∧ j < 2 ^ 64)
theorem CMul.ok {i j : Int} (h : CMul i j) : IntMulOk i j := by
  rcases h with ⟨h1, h2⟩ | ⟨h1, h2⟩
  · exact .of_left (intBits_le_64 h1 h2)
  · exact .of_right (intBits_le_64 h1 h2)
theorem op_add : OpR X (binaryOp .Add) (rI0 fun i j => .int (i + j)) := opI0 fun _ _ _ _ _ _ _ q => add_int q
theorem op_sub : OpR X (binaryOp .Sub) (rI0 fun i j => .int (i - j)) := opI0 fun _ _ _ _ _ _ _ q => sub_int q
theorem op_modN : OpR X (binaryOp .Mod) (rI (fun _ j => j ≠ 0) fun i j => .int (i.fmod j)) := opI fun _ _ _ _ _ _ _ hc q => mod_int' hc q
theorem op_pow : OpR X (binaryOp .Pow) (rI CPow fun i j => .int (i ^ j.toNat)) := opI fun _ _ _ _ _ _ _ hc q => pow_int_small hc.1 hc.2.1 hc.2.2 q
theorem unI {f : Value → Sem Value} {g : Int → Int}
    (rule : ∀ (i : Int) (t : Tok) (s : Shared) (Q : Value → Shared → Prop) (E : Value → Shared → Prop), Q (.int (g i) s.toks) { s with toks := s.toks + 1 } → wpAny (model X.prog X.w) X.A (f (.int i t)) Q E s) :
    UnR X f (rU fun i => .int (g i)) := by
  intro pins s σ H x v Q I rx h
  obtain ⟨i, rfl, q⟩ := h
  obtain ⟨t, rfl⟩ := rx
  exact rule i t s _ _ ⟨.int (g i), H, I.tok _, ⟨_, rfl⟩, q⟩
theorem un_neg : UnR X (unaryOp .USub) (rU fun i => .int (-i)) := unI fun _ _ _ _ _ q => neg_int q
end

def scal : V → V → Bool
  | .non, .non => true | .non, .int _ => true | .int _, .non => true | .non, .bl _ => true | .bl _, .non => true | .non, .str _ => true | .str _, .non => true
  | .int _, .int _ => true | .bl _, .bl _ => true | .str _, .str _ => true | .byt _, .byt _ => true
  | .int _, .str _ => true | .str _, .int _ => true | .bl _, .str _ => true | .str _, .bl _ => true
  | _, _ => false
def rEq : R2 := fun x y H Q => scal x y = true ∧ Q (.bl (decide (x = y))) H
def rNe : R2 := fun x y H Q => scal x y = true ∧ Q (.bl (!decide (x = y))) H

theorem dec_int {i j : Int} : decide (V.int i = V.int j) = (i == j) := by
  rw [Bool.eq_iff_iff]
  simp
theorem dec_bl {i j : Bool} : decide (V.bl i = V.bl j) = (i == j) := by
  rw [Bool.eq_iff_iff]
  simp
theorem dec_str {i j : Str} : decide (V.str i = V.str j) = (i == j) := by
  rw [Bool.eq_iff_iff]
  simp
theorem dec_byt {i j : Array UInt8} : decide (V.byt i = V.byt j) = (i.toList == j.toList) := by
  rw [Bool.eq_iff_iff]
  cases i
  cases j
  simp

section
variable {X : Cx} {a b c : Expr} {ta tb tc : TE} {pos : Pos}
theorem fin_bl {pins : List (Addr × Obj)} {σ : St} {H : Hp} {s : Shared} {Q : VK} {k k' : Bool} (I : Inv X pins σ H s) (q : Q (.bl k) H) (e : k = k') : EP X pins σ Q (.bool k') s := by
  subst e
  exact ⟨.bl k, H, I, rfl, q⟩
theorem op_eq : OpR X (compareOp .Eq) rEq := by
  intro pins s σ H x y v u Q I rx ry h
  obtain ⟨hs, q⟩ := h
  cases x with
  | non =>
    cases rx
    cases y with
    | non => cases ry; exact PySem.EqNone.eq_none_none (fin_bl I q (by simp))
    | bl j => cases ry; exact PySem.EqNone.eq_none_bool (fin_bl I q (by simp))
    | int j => obtain ⟨t', rfl⟩ := ry; exact PySem.EqNone.eq_none_int (fin_bl I q (by simp))
    | str j => obtain ⟨t', rfl⟩ := ry; exact PySem.EqNone.eq_none_str (fin_bl I q (by simp))
    | _ => exact absurd (show false = true from hs) Bool.false_ne_true
  | bl i =>
    cases rx
    cases y with
    | non => cases ry; exact PySem.EqNone.eq_bool_none (fin_bl I q (by simp))
    | bl j => cases ry; exact eq_bool (fin_bl I q dec_bl)
    | str j => obtain ⟨t', rfl⟩ := ry; exact PySem.EqMixed.eq_bool_str (fin_bl I q (by simp))
    | _ => exact absurd (show false = true from hs) Bool.false_ne_true
  | int i =>
    obtain ⟨t, rfl⟩ := rx
    cases y with
    | non => cases ry; exact PySem.EqNone.eq_int_none (fin_bl I q (by simp))
    | int j => obtain ⟨t', rfl⟩ := ry; exact eq_int (fin_bl I q dec_int)
    | str j => obtain ⟨t', rfl⟩ := ry; exact PySem.EqMixed.eq_int_str (fin_bl I q (by simp))
    | _ => exact absurd (show false = true from hs) Bool.false_ne_true
  | str i =>
    obtain ⟨t, rfl⟩ := rx
    cases y with
    | non => cases ry; exact PySem.EqNone.eq_str_none (fin_bl I q (by simp))
    | bl j => cases ry; exact PySem.EqMixed.eq_str_bool (fin_bl I q (by simp))
    | int j => obtain ⟨t', rfl⟩ := ry; exact PySem.EqMixed.eq_str_int (fin_bl I q (by simp))
    | str j => obtain ⟨t', rfl⟩ := ry; exact eq_str (fin_bl I q dec_str)
    | _ => exact absurd (show false = true from hs) Bool.false_ne_true
  | byt i =>
    obtain ⟨t, rfl⟩ := rx
    cases y with
    | byt j => obtain ⟨t', rfl⟩ := ry; exact PySem.W.eq_bytes (fin_bl I q dec_byt)
    | _ => exact absurd (show false = true from hs) Bool.false_ne_true
  | _ => cases y <;> exact absurd (show false = true from hs) Bool.false_ne_true
theorem op_ne : OpR X (compareOp .NotEq) rNe := by
  intro pins s σ H x y v u Q I rx ry h
  obtain ⟨hs, q⟩ := h
  cases x with
  | non =>
    cases rx
    cases y with
    | non => cases ry; exact PySem.EqNone.ne_none_none (fin_bl I q (by simp))
    | bl j => cases ry; exact PySem.EqNone.ne_none_bool (fin_bl I q (by simp))
    | int j => obtain ⟨t', rfl⟩ := ry; exact PySem.EqNone.ne_none_int (fin_bl I q (by simp))
    | str j => obtain ⟨t', rfl⟩ := ry; exact PySem.EqNone.ne_none_str (fin_bl I q (by simp))
    | _ => exact absurd (show false = true from hs) Bool.false_ne_true
  | bl i =>
    cases rx
    cases y with
    | non => cases ry; exact PySem.EqNone.ne_bool_none (fin_bl I q (by simp))
    | bl j => cases ry; exact ne_bool (fin_bl I q (congrArg not dec_bl))
    | str j => obtain ⟨t', rfl⟩ := ry; exact PySem.EqMixed.ne_bool_str (fin_bl I q (by simp))
    | _ => exact absurd (show false = true from hs) Bool.false_ne_true
  | int i =>
    obtain ⟨t, rfl⟩ := rx
    cases y with
    | non => cases ry; exact PySem.EqNone.ne_int_none (fin_bl I q (by simp))
    | int j => obtain ⟨t', rfl⟩ := ry; exact ne_int (fin_bl I q (congrArg not dec_int))
    | str j => obtain ⟨t', rfl⟩ := ry; exact PySem.EqMixed.ne_int_str (fin_bl I q (by simp))
    | _ => exact absurd (show false = true from hs) Bool.false_ne_true
  | str i =>
    obtain ⟨t, rfl⟩ := rx
    cases y with
    | non => cases ry; exact PySem.EqNone.ne_str_none (fin_bl I q (by simp))
    | bl j => cases ry; exact PySem.EqMixed.ne_str_bool (fin_bl I q (by simp))
    | int j => obtain ⟨t', rfl⟩ := ry; exact PySem.EqMixed.ne_str_int (fin_bl I q (by simp))
    | str j => obtain ⟨t', rfl⟩ := ry; exact ne_str (fin_bl I q (congrArg not dec_str))
    | _ => exact absurd (show false = true from hs) Bool.false_ne_true
  | byt i =>
    obtain ⟨t, rfl⟩ := rx
    cases y with
    | byt j => obtain ⟨t', rfl⟩ := ry; exact PySem.W.ne_bytes (fin_bl I q (congrArg not dec_byt))
    | _ => exact absurd (show false = true from hs) Bool.false_ne_true
  | _ => cases y <;> exact absurd (show false = true from hs) Bool.false_ne_true

theorem op_lt : OpR X (compareOp .Lt) (rI0 fun i j => .bl (decide (i < j))) := opB0 fun _ _ _ _ _ _ _ q => lt_int q
theorem op_gt : OpR X (compareOp .Gt) (rI0 fun i j => .bl (decide (j < i))) := opB0 fun _ _ _ _ _ _ _ q => gt_int q
theorem op_ge : OpR X (compareOp .GtE) (rI0 fun i j => .bl (decide (j ≤ i))) := opB0 fun _ _ _ _ _ _ _ q => ge_int q
theorem op_in_str : OpR X (compareOp .In) (fun x y H Q => ∃ i j, x = .str i ∧ y = .str j ∧ Q (.bl (!(Builtin.Str.occurrences j i 0 j.length 1).isEmpty)) H) := by
  intro pins s σ H x y v u Q I rx ry h
  obtain ⟨i, j, rfl, rfl, q⟩ := h
  obtain ⟨t, rfl⟩ := rx
  obtain ⟨t', rfl⟩ := ry
  exact in_str (fin_bl I q rfl)

theorem op_isN : OpR X (compareOp .Is) (fun x y H Q => y = .non ∧ Q (.bl (decide (x = .non))) H) := by
  intro pins s σ H x y v u Q I rx ry h
  obtain ⟨rfl, q⟩ := h
  cases ry
  refine is_none_gen (fin_bl I q ?_)
  cases x <;> first
    | (cases rx; rfl)
    | (obtain ⟨t, rfl⟩ := rx; rfl)
theorem op_notN : OpR X (compareOp .IsNot) (fun x y H Q => y = .non ∧ Q (.bl (!decide (x = .non))) H) := by
  intro pins s σ H x y v u Q I rx ry h
  obtain ⟨rfl, q⟩ := h
  cases ry
  refine isnot_none_gen (fin_bl I q ?_)
  cases x <;> first
    | (cases rx; rfl)
    | (obtain ⟨t, rfl⟩ := rx; rfl)

theorem op_notin_str : OpR X (compareOp .NotIn) (fun x y H Q => ∃ i j, x = .str i ∧ y = .str j ∧ Q (.bl (!(!(Builtin.Str.occurrences j i 0 j.length 1).isEmpty))) H) := by
  intro pins s σ H x y v u Q I rx ry h
  obtain ⟨i, j, rfl, rfl, q⟩ := h
  obtain ⟨t, rfl⟩ := rx
  obtain ⟨t', rfl⟩ := ry
  exact notIn_str (fin_bl I q rfl)
theorem OpR.or {f : Value → Value → Sem Value} {r r' : R2} (h : OpR X f r) (h' : OpR X f r') : OpR X f (fun x y H Q => r x y H Q ∨ r' x y H Q) := by
  intro pins s σ H x y v u Q I rx ry q
  rcases q with q | q
  · exact h pins s σ H x y v u Q I rx ry q
  · exact h' pins s σ H x y v u Q I rx ry q

theorem nomark (b : Expr) {op : CmpOp} (h : op ≠ .In := by decide) (h2 : op ≠ .NotIn := by decide) : behindInMarks op b = false := by
  have e1 : (op == CmpOp.In) = false := by cases op <;> first | rfl | exact absurd rfl h
  have e2 : (op == CmpOp.NotIn) = false := by cases op <;> first | rfl | exact absurd rfl h2
  cases b <;> simp [behindInMarks, e1, e2]
theorem pe_cmpR {op : CmpOp} {r : R2} (ho : OpR X (compareOp op) r) (ha : PE X a ta) (hb : PE X b tb) (hm : behindInMarks op b = false) : PE X (.Compare a [op] [b] pos) (tOp r ta tb) := by
  intro pins s σ H Q I h
  exact wpAny_Compare1 (binT ha hb I h fun v u s2 x y H2 I2 rx ry q => ho pins s2 σ H2 x y v u Q I2 rx ry q) hm
def tTest (t : TE) : TT := fun σ H Q => t σ H fun x H' => ∃ k, x = .bl k ∧ Q k H'
theorem pt_cmpR {op : CmpOp} {r : R2} (ho : OpR X (compareOp op) r) (ha : PE X a ta) (hb : PE X b tb) (hm : behindInMarks op b = false) : PT X (.Compare a [op] [b] pos) (tTest (tOp r ta tb)) := by
  intro pins s σ H Q I h
  refine wpAny_isTrue_Compare1 (thn (ha pins s σ H _ I h) fun v s1 ⟨x, H1, I1, r1, q1⟩ => thn (hb pins s1 σ H1 _ I1 q1) fun u s2 ⟨y, H2, I2, r2, q2⟩ =>
    thn (ho pins s2 σ H2 x y v u _ I2 r1 r2 q2) fun c s3 ⟨z, H3, I3, r3, k, e, q3⟩ => ?_) hm
  subst e
  cases r3
  exact wpAny_truthy_bool ⟨H3, I3, q3⟩
def tChain (r r' : R2) (ta tb tc : TE) : TE := fun σ H Q => ta σ H fun x H1 => tb σ H1 fun y H2 => r x y H2 fun z H3 => ∃ k, z = .bl k ∧
  (if k = true then tc σ H3 fun w' H4 => r' y w' H4 Q else Q (.bl false) H3)
def TruV (K : PySem.W.Frag) (x : V) (H : Hp) (k : Bool) : Prop :=
  match x with
  | .non => k = false
  | .bl b => k = b
  | .int i => k = (i != 0)
  | .str y => y.length ≤ sizeLine ∧ k = ((y.length : Int) != 0)
  | .byt y => y.size ≤ sizeLine ∧ k = ((y.size : Int) != 0)
  | .ref p => (∃ xs, SqL K H p xs ∧ k = !xs.isEmpty) ∨ (∃ xs, SqT K H p xs ∧ k = !xs.isEmpty) ∨ ∃ kvs, H p = some (.dK kvs) ∧ k = !kvs.isEmpty
  | _ => False
theorem isEmpty_kv {κ : Type} {kvs : List (κ × V)} {vs : List (κ × Value)} (r : KV kvs vs) : (!vs.isEmpty) = !kvs.isEmpty := by
  cases r <;> rfl
theorem isEmpty_of {xs : List V} {its : List Value} (r : Vals xs its) : (!its.toArray.isEmpty) = !xs.isEmpty := by
  cases r <;> simp
theorem line63 : (sizeLine : Nat) < 2 ^ 63 := by rw [sizeLine_eq]; decide
theorem tru_ok : TruR X (fun x H Q => ∃ k, TruV X.K x H k ∧ Q k H) := by
  intro pins s σ H x v Q I rx h
  obtain ⟨k, e, q⟩ := h
  have hl := line63
  have hs : sizeLine = 16777216 := sizeLine_eq
  cases x with
  | non =>
    cases rx
    have e' : k = false := e
    subst e'
    exact truthy_none ⟨H, I, q⟩
  | bl b =>
    cases rx
    have e' : k = b := e
    subst e'
    exact wpAny_truthy_bool ⟨H, I, q⟩
  | int i =>
    obtain ⟨t, rfl⟩ := rx
    have e' : k = (i != 0) := e
    subst e'
    exact PySem.P.truthy_int ⟨H, I, q⟩
  | str y =>
    obtain ⟨t, rfl⟩ := rx
    obtain ⟨hy, e'⟩ : y.length ≤ sizeLine ∧ k = ((y.length : Int) != 0) := e
    subst e'
    exact PySem.P.truthy_str (by omega) ⟨H, I.tok _, q⟩
  | byt y =>
    obtain ⟨t, rfl⟩ := rx
    obtain ⟨hy, e'⟩ : y.size ≤ sizeLine ∧ k = ((y.size : Int) != 0) := e
    subst e'
    exact PySem.W.truthy_bytes (by omega) ⟨H, I.tok _, q⟩
  | ref p =>
    cases rx
    have e' : (∃ xs, SqL X.K H p xs ∧ k = !xs.isEmpty) ∨ (∃ xs, SqT X.K H p xs ∧ k = !xs.isEmpty) ∨ ∃ kvs, H p = some (.dK kvs) ∧ k = !kvs.isEmpty := e
    rcases e' with ⟨xs, hx, e'⟩ | ⟨xs, hx, e'⟩ | ⟨kvs, hx, e'⟩
    · subst e'
      obtain ⟨its, r, pl, hz⟩ := I.list hx
      have hlen := r.length
      exact wpAny_truthy_list pl.isList (by simp only [List.size_toArray]; omega) ⟨H, I.tok _, by rw [isEmpty_of r]; exact q⟩
    · subst e'
      obtain ⟨its, r, pl, hz⟩ := I.tuple hx
      have hlen := r.length
      exact truthy_tuple pl (by simp only [List.size_toArray]; omega) ⟨H, I.tok _, by rw [isEmpty_of r]; exact q⟩
    · subst e'
      obtain ⟨hz, hS, vs, r, m⟩ : kvs.length ≤ sizeLine ∧ (p == sysModules) = false ∧ ∃ vs, KV kvs vs ∧ s.heap.DictOf (mixKind X.prog X.w) p vs := I.hok p _ hx
      have hlen : kvs.length = vs.length := Paired.length r
      exact wpAny_truthy_dict hS m (by omega) ⟨H, I.tok _, by rw [isEmpty_kv r]; exact q⟩
  | _ => exact (show False from e).elim
theorem op_add_str : OpR X (binaryOp .Add) (fun x y H Q => ∃ i j, x = .str i ∧ y = .str j ∧ i.length + j.length ≤ sizeLine ∧ Q (.str (i ++ j)) H) := by
  intro pins s σ H x y v u Q I rx ry h
  obtain ⟨i, j, rfl, rfl, hz, q⟩ := h
  obtain ⟨t, rfl⟩ := rx
  obtain ⟨t', rfl⟩ := ry
  exact add_str (fun t' tk => ⟨.str (i ++ j), H, I.tok _, ⟨_, rfl⟩, q⟩) hz
theorem vals1 {x : V} {us : List Value} (r : Vals [x] us) : ∃ u, us = [u] ∧ RelV x u := by
  cases r with
  | cons r1 r2 => cases r2; exact ⟨_, rfl, r1⟩
theorem vals2 {x y : V} {us : List Value} (r : Vals [x, y] us) : ∃ u w', us = [u, w'] ∧ RelV x u ∧ RelV y w' := by
  cases r with
  | cons r1 r2 =>
    cases r2 with
    | cons r3 r4 => cases r4; exact ⟨_, _, rfl, r1, r3⟩
theorem call_abs : CallR X (.builtin "abs") (fun xs H Q => ∃ i, xs = [.int i] ∧ Q (.int (if i < 0 then -i else i)) H) := by
  intro pins s σ H xs us Q I r h
  obtain ⟨i, rfl, q⟩ := h
  obtain ⟨u, rfl, t, rfl⟩ := vals1 r
  exact call_abs_int fun u tk => ⟨.int (if i < 0 then -i else i), H, I.tok _, ⟨_, rfl⟩, q⟩
theorem call_max2 (hc : X.calm = true) : CallR X (.builtin "max") (fun xs H Q => ∃ i j, xs = [.int i, .int j] ∧ Q (.int (if j > i then j else i)) H) := by
  intro pins s σ H xs us Q I r h
  obtain ⟨i, j, rfl, q⟩ := h
  obtain ⟨u, w', rfl, ⟨t, rfl⟩, ⟨t', rfl⟩⟩ := vals2 r
  refine max_two_ints (I.ok.hd hc) fun h' tk k => ⟨_, H, I.kept k, ?_, q⟩
  by_cases hj : j > i
  · rw [if_pos hj, if_pos hj]; exact ⟨_, rfl⟩
  · rw [if_neg hj, if_neg hj]; exact ⟨_, rfl⟩
theorem call_min2 (hc : X.calm = true) : CallR X (.builtin "min") (fun xs H Q => ∃ i j, xs = [.int i, .int j] ∧ Q (.int (if j < i then j else i)) H) := by
  intro pins s σ H xs us Q I r h
  obtain ⟨i, j, rfl, q⟩ := h
  obtain ⟨u, w', rfl, ⟨t, rfl⟩, ⟨t', rfl⟩⟩ := vals2 r
  refine min_two_ints (I.ok.hd hc) fun h' tk k => ⟨_, H, I.kept k, ?_, q⟩
  by_cases hj : j < i
  · rw [if_pos hj, if_pos hj]; exact ⟨_, rfl⟩
  · rw [if_neg hj, if_neg hj]; exact ⟨_, rfl⟩
theorem call_int1 : CallR X (.type "int") (fun xs H Q => (∃ i, xs = [.int i] ∧ Q (.int i) H) ∨ ∃ k, xs = [.bl k] ∧ Q (.int (if k then 1 else 0)) H) := by
  intro pins s σ H xs us Q I r h
  rcases h with ⟨i, rfl, q⟩ | ⟨k, rfl, q⟩
  · obtain ⟨u, rfl, t, rfl⟩ := vals1 r
    exact call_int_int ⟨.int i, H, I, ⟨_, rfl⟩, q⟩
  · obtain ⟨u, rfl, r1⟩ := vals1 r
    cases r1
    exact call_int_bool ⟨.int (if k then 1 else 0), H, I.tok _, ⟨_, rfl⟩, q⟩
def LenV (K : PySem.W.Frag) (x : V) (H : Hp) (n : Nat) : Prop :=
  match x with
  | .str y => y.length ≤ sizeLine ∧ n = y.length
  | .byt y => y.size ≤ sizeLine ∧ n = y.size
  | .ref p => (∃ xs, SqL K H p xs ∧ n = xs.length) ∨ ∃ xs, SqT K H p xs ∧ n = xs.length
  | _ => False
theorem call_len : CallR X (.builtin "len") (fun xs H Q => ∃ x n, xs = [x] ∧ LenV X.K x H n ∧ Q (.int n) H) := by
  intro pins s σ H xs us Q I r h
  obtain ⟨x, n, rfl, e, q⟩ := h
  obtain ⟨u, rfl, rx⟩ := vals1 r
  have hl := line63
  have hs : sizeLine = 16777216 := sizeLine_eq
  cases x with
  | str y =>
    obtain ⟨t, rfl⟩ := rx
    obtain ⟨hy, e'⟩ : y.length ≤ sizeLine ∧ n = y.length := e
    subst e'
    exact len_str (by omega) ⟨.int _, H, I.tok _, ⟨_, rfl⟩, q⟩
  | byt y =>
    obtain ⟨t, rfl⟩ := rx
    obtain ⟨hy, e'⟩ : y.size ≤ sizeLine ∧ n = y.size := e
    subst e'
    exact PySem.W.len_bytes (by omega) ⟨.int _, H, I.tok _, ⟨_, rfl⟩, q⟩
  | ref p =>
    cases rx
    have e' : (∃ xs, SqL X.K H p xs ∧ n = xs.length) ∨ ∃ xs, SqT X.K H p xs ∧ n = xs.length := e
    rcases e' with ⟨xs, hx, e'⟩ | ⟨xs, hx, e'⟩
    · subst e'
      obtain ⟨its, r', pl, hz⟩ := I.list hx
      have hlen := r'.length
      exact Calls.call_len_list pl.isList (by simp only [List.size_toArray]; omega) ⟨.int xs.length, H, I.tok _, ⟨_, by simp only [List.size_toArray]; rw [hlen]⟩, q⟩
    · subst e'
      obtain ⟨its, r', pl, hz⟩ := I.tuple hx
      have hlen := r'.length
      exact len_tuple pl (by simp only [List.size_toArray]; omega) ⟨.int xs.length, H, I.tok _, ⟨_, by simp only [List.size_toArray]; rw [hlen]⟩, q⟩
  | _ => exact (show False from e).elim
end
end L2

namespace L2
open PySem PySem.Spec PyProof.Rows

structure ObjM (h : Heap) (x dx C : Addr) (mA : Str → Option Value) : Prop where
  obj : h.get? x = some (PySem.W.instObj C dx)
  ns : h.Ns1 dx mA
  ne : dx ≠ x

theorem lookIn_ns {h : Heap} {dx : Addr} {mA : Str → Option Value} (n : h.Ns1 dx mA) : ∃ od, h.get? dx = some od ∧ ∀ name, PySem.W.lookIn name od = some (mA name) := by
  obtain ⟨o, es, ep, ho, hd, hk, _, hm⟩ := n
  refine ⟨o, ho, fun name => ?_⟩
  have e := hm name
  unfold nsFind findBy at e
  rw [← Array.find?_toList] at e
  unfold PySem.W.lookIn
  rw [hd]
  dsimp only
  split
  · rename_i y q
    rw [q] at e
    exact congrArg some e
  · rename_i q
    rw [q] at e
    have a : es.toList.any (·.refKey) = false := by
      rw [List.any_eq_false]
      intro y hy
      obtain ⟨z, t, hkey⟩ := hk y (Array.mem_toList_iff.mp hy)
      simp [DictEntry.refKey, hkey]
    have a' : ¬ es.toList.any (·.refKey) = true := by rw [a]; exact Bool.false_ne_true
    rw [if_neg a']
    exact congrArg some e

theorem ObjM.look {h : Heap} {x dx C : Addr} {mA : Str → Option Value} (I : ObjM h x dx C mA) : ∃ od, PySem.W.InstAt h x (PySem.W.instObj C dx) C (some od) ∧ ∀ name, PySem.W.lookIn name od = some (mA name) :=
  let ⟨od, ho, hl⟩ := lookIn_ns I.ns
  ⟨od, ⟨I.obj, rfl, rfl, ho⟩, hl⟩

section
variable {prog : Program} {w : World} {A : Around} {E : Value → Shared → Prop} {s : Shared} {K : PySem.W.Frag} {x dx C f : Addr} {mA : Str → Option Value} {name : Str} {v : Value}

end

theorem RelO.some_of {v : V} {o : Option Value} (r : RelO (some v) o) : ∃ u, o = some u ∧ RelV v u := by
  cases o with
  | none => exact (show False from r).elim
  | some u => exact ⟨u, rfl, r⟩
section
variable {P : Program} {w : World} {H H' : Hp} {h h' : Heap} {a C dx : Addr} {fs fs' : List (Str × V)}
theorem ins_get (hok : HOk P w H h) (e : H a = some (.ins C dx fs)) : ∃ mA, ObjM h a dx C mA ∧ (∀ f, RelO (fs.lookup f) (mA f)) ∧ PySem.Within mA (fs.map (·.1)) ∧ fs.length ≤ 1000 ∧ H dx = some (.own a) := by
  obtain ⟨d, z, ne, ob, mA, n, r, q⟩ := (show ObjOk P w H h a (.ins C dx fs) from hok a _ e)
  exact ⟨mA, ⟨ob, n, ne⟩, r, q, z, d⟩
end

structure Cls (K : PySem.W.Frag) (C : Addr) : Prop where
  pg : PySem.W.plainGet K C Str.empty = true
  hd : PySem.W.hasDictIn K C = true
  po : PySem.W.plainOver K C = true
  sa : PySem.W.findIn K (.ref C) "__setattr__" = some (some (.builtin "object.__setattr__"))
theorem Cls.get {K : PySem.W.Frag} {C : Addr} (c : Cls K C) (f : Str) : PySem.W.plainGet K C f = true := c.pg
def NoAttr (K : PySem.W.Frag) (C : Addr) (f : Str) : Prop := PySem.W.findIn K (.ref C) f = some none
structure Con (K : PySem.W.Frag) (C : Addr) (f : Str) (v : V) (u : Value) : Prop where
  at_ : PySem.W.findIn K (.ref C) f = some (some u)
  rel : RelV v u
  get : PySem.W.specialIn K u "__get__" = some none
  cp : PySem.W.copiedNames.contains f = false
structure Meth (K : PySem.W.Frag) (C : Addr) (m : Str) (f : Addr) : Prop where
  at_ : PySem.W.findIn K (.ref C) m = some (some (.ref f))
  fn : PySem.W.isFn K (.ref f) = true
  kp : PySem.W.keepIn K (.ref f) = true

section
variable {X : Cx} {pins : List (Addr × Obj)} {σ : St} {H : Hp} {s : Shared} {a C dx : Addr} {fs : List (Str × V)} {f : Str} {v : V} {A : Around} {E : Value → Shared → Prop}

end

section
variable {X : Cx} {o e value : Expr} {f : Str} {pos pos' tpos : Pos} {ta tv : TE}
end

section
variable {X : Cx} {pins : List (Addr × Obj)} {σ : St} {H : Hp} {s : Shared} {A : Around} {E : Value → Shared → Prop} {Q : Value → Shared → Prop} {c : Value} {b : Bool}
inductive TyOf (K : PySem.W.Frag) (H : Hp) : V → Value → Prop where
  | non : TyOf K H .non (.type "NoneType")
  | bl (x : Bool) : TyOf K H (.bl x) (.type "bool")
  | int (i : Int) : TyOf K H (.int i) (.type "int")
  | str (x : Str) : TyOf K H (.str x) (.type "str")
  | flt (x : UInt64) : TyOf K H (.flt x) (.type "float")
  | lst {a : Addr} {xs : List V} (e : H a = some (.lst xs)) : TyOf K H (.ref a) (.type "list")
  | frz {a : Addr} {o : Obj} {xs : List V} (e : H a = some (.frz o (.lst xs))) : TyOf K H (.ref a) (.type "list")
  | tup {a : Addr} {xs : List V} (e : H a = some (.tup xs)) : TyOf K H (.ref a) (.type "tuple")
  | dK {a : Addr} {kvs : List (Key × V)} (e : H a = some (.dK kvs)) : TyOf K H (.ref a) (.type "dict")
  | dT {a : Addr} {kvs : List (List Key × V)} (e : H a = some (.dT kvs)) : TyOf K H (.ref a) (.type "dict")
  | ins {a C dx : Addr} {fs : List (Str × V)} (e : H a = some (.ins C dx fs)) (cl : Cls K C) (ha : PySem.W.findIn K (.ref C) "__class__" = some (some (.builtin "object.__class__")))
      (hn : PySem.W.specialIn K (.builtin "object.__class__") "__get__" = some (some (.builtin "getset_descriptor.__get__"))) (htk : PySem.W.takesIn K (.builtin "object.__class__") = some true)
      (hm : PySem.W.mroIn K C (.type "object") = some true) : TyOf K H (.ref a) (.ref C)
theorem isinst_ok {x : V} {u t : Value} (I : Inv X pins σ H s) (rx : RelV x u) (ty : TyOf X.K H x t) (e : PySem.W.kitOne X.K t c = some b) (h : ∀ tk, Q (.bool b) { s with toks := tk }) :
    wpAny (model X.prog X.w) A (call (.builtin "isinstance") [u, c]) Q E s := by
  cases ty with
  | non => cases (show u = Value.none from rx); exact PySem.W.kia_one PySem.W.kitx_none I.kIn True.intro e (fun z => nomatch z) h
  | bl y => cases (show u = Value.bool y from rx); exact PySem.W.kia_one PySem.W.kitx_bool I.kIn True.intro e (fun z => nomatch z) h
  | int i => obtain ⟨t, q⟩ := (show ∃ t, u = Value.int i t from rx); cases q; exact PySem.W.kia_one PySem.W.kitx_int I.kIn True.intro e (fun z => nomatch z) h
  | str y => obtain ⟨t, q⟩ := (show ∃ t, u = Value.str y t from rx); cases q; exact PySem.W.kia_one PySem.W.kitx_str I.kIn True.intro e (fun z => nomatch z) h
  | flt y => obtain ⟨t, q⟩ := (show ∃ t, u = Value.float y t from rx); cases q; exact PySem.W.kia_one PySem.W.kitx_float I.kIn True.intro e (fun z => nomatch z) h
  | @lst a xs ea =>
    cases (show u = Value.ref a from rx)
    obtain ⟨_, _, n, _, h1⟩ := (show ObjOk X.prog X.w H s.heap a (.lst xs) from I.hok a _ ea)
    exact PySem.W.kia_one PySem.W.kitx_list I.kIn ⟨_, h1, rfl⟩ e (fun z => nomatch z) h
  | @frz a ob xs ea =>
    cases (show u = Value.ref a from rx)
    obtain ⟨_, _, _, n, _, h1⟩ := (show ObjOk X.prog X.w H s.heap a (.frz ob (.lst xs)) from I.hok a _ ea)
    exact PySem.W.kia_one PySem.W.kitx_list I.kIn ⟨_, h1, rfl⟩ e (fun z => nomatch z) h
  | @tup a xs ea =>
    cases (show u = Value.ref a from rx)
    obtain ⟨_, _, _, p⟩ := (show ObjOk X.prog X.w H s.heap a (.tup xs) from I.hok a _ ea)
    obtain ⟨o, h1, h2, _⟩ := p
    exact PySem.W.kia_one PySem.W.kitx_tuple I.kIn ⟨o, h1, h2⟩ e (fun z => nomatch z) h
  | @dK a kvs ea =>
    cases (show u = Value.ref a from rx)
    obtain ⟨_, _, vs, _, p⟩ := (show ObjOk X.prog X.w H s.heap a (.dK kvs) from I.hok a _ ea)
    obtain ⟨o, es, ep, h1, h2, _⟩ := p
    exact PySem.W.kia_one PySem.W.kitx_dict I.kIn ⟨o, h1, h2.1⟩ e (fun z => nomatch z) h
  | @dT a kvs ea =>
    cases (show u = Value.ref a from rx)
    obtain ⟨_, _, xs, _, o, es, ep, h1, h2, _⟩ := (show ObjOk X.prog X.w H s.heap a (.dT kvs) from I.hok a _ ea)
    exact PySem.W.kia_one PySem.W.kitx_dict I.kIn ⟨o, h1, h2.1⟩ e (fun z => nomatch z) h
  | @ins a C dx fs ea cl ha hn htk hm =>
    cases (show u = Value.ref a from rx)
    obtain ⟨mA, O, _⟩ := ins_get I.hok ea
    obtain ⟨od, J, _⟩ := O.look
    exact PySem.W.kia_one (PySem.W.kitx_own (cl.get _) cl.hd ha hn htk hm) I.kIn J e (fun z => nomatch z) h
end
end L2

namespace L2
open PySem PySem.Spec PyProof.Rows

structure Room (k : Nat) (A : Around) : Prop where
  hd : A.handled = none
  dp : A.depth + 3 * k + 5 < recursionLimit
  un : A.units + 16 * k + 200 < cLine
  gd : A.guards = some []
theorem Room.mono {j k : Nat} {A : Around} (r : Room k A) (h : j ≤ k) : Room j A := ⟨r.hd, by have := r.dp; omega, by have := r.un; omega, r.gd⟩
theorem Room.deeper {k : Nat} {A : Around} (r : Room (k + 1) A) (env : Env) : Room k (A.deeper env) :=
  ⟨r.hd, by have := r.dp; show A.depth + 1 + 3 * k + 5 < _; omega, by have := r.un; show A.units + 3 + 16 * k + 200 < _; omega, r.gd⟩
theorem Room.in1 {k : Nat} {A : Around} (r : Room (k + 1) A) : Room k A.in1 :=
  ⟨r.hd, by have := r.dp; show A.depth + 3 * k + 5 < _; omega, by have := r.un; show A.units + 1 + 16 * k + 200 < _; omega, r.gd⟩
theorem Room.depth {k : Nat} {A : Around} (r : Room k A) : A.depth < recursionLimit := by have := r.dp; omega
theorem Room.units {k : Nat} {A : Around} (r : Room k A) : A.units + 64 < cLine := by have := r.un; omega
def tNil : TA := fun _ H Q => Q [] H
def tCons (ta : TE) (tr : TA) : TA := fun σ H Q => ta σ H fun x H1 => tr σ H1 fun xs H2 => Q (x :: xs) H2
section
variable {X : Cx} {e : Expr} {es : List Expr} {te : TE} {t : TA} {pos : Pos}
theorem pa_nil : PA X [] tNil := fun _ _ _ _ H Q I h => Calls.spliced_nil ⟨[], H, I, .nil, h⟩
theorem pa_cons (ha : PE X e te) (hr : PA X es t) (hs : starEach (e :: es) X.env = (false, eval e X.env) :: starEach es X.env := by rfl) : PA X (e :: es) (tCons te t) := by
  intro pos pins s σ H Q I h
  rw [hs]
  show wpAny _ _ (spliced ((false, eval e X.env) :: backTo pos (starEach es X.env))) _ _ s
  refine Calls.spliced_cons (thn (ha pins s σ H _ I h) fun u s1 ⟨x, H1, I1, r1, q1⟩ => ?_)
  exact thn (hr pos pins s1 σ H1 _ I1 q1) fun us s2 ⟨xs, H2, I2, r2, q2⟩ => ⟨x :: xs, H2, I2, .cons r1 r2, q2⟩

def tTup (t : TA) : TE := fun σ H Q => t σ H fun xs H1 => xs.length ≤ sizeLine ∧ ∀ p, H1 p = none → Q (.ref p) (upd H1 p (.tup xs))
def tLst (t : TA) : TE := fun σ H Q => t σ H fun xs H1 => xs.length ≤ sizeLine ∧ ∀ p, H1 p = none → Q (.ref p) (upd H1 p (.lst xs))
theorem pe_tup {x1} (h : PA X es t) : PE X (.Tuple es x1 pos) (tTup t) := by
  intro pins s σ H Q I hq
  refine wpAny_Tuple_spliced (thn (h pos pins s σ H _ I hq) fun us s1 ⟨xs, H1, I1, r, z, q⟩ => ⟨by rw [← r.length]; exact z, ?_⟩)
  have hf : H1 s1.heap.objs.size = none := I1.hok.fresh (Nat.le_refl _)
  refine ⟨.ref s1.heap.objs.size, upd H1 s1.heap.objs.size (.tup xs), I1.laid (t' := s1.toks) (fun b u e => Heap.get?_push_of_some _ e) (Nat.le_refl _) ?_, rfl, q _ hf⟩
  exact ⟨z, us, r, ⟨_, Heap.get?_push_size _ rfl, rfl, _, rfl⟩⟩
theorem pe_lst (h : PA X es t) : PE X (.List es pos) (tLst t) := by
  intro pins s σ H Q I hq
  refine wpAny_List_spliced (thn (h pos pins s σ H _ I hq) fun us s1 ⟨xs, H1, I1, r, z, q⟩ => ⟨by rw [← r.length]; exact z, ?_⟩)
  have hf : H1 s1.heap.objs.size = none := I1.hok.fresh (Nat.le_refl _)
  refine ⟨.ref s1.heap.objs.size, upd H1 s1.heap.objs.size (.lst xs), I1.laid (t' := s1.toks) (fun b u e => Heap.get?_push_of_some _ e) (Nat.le_refl _) ?_, rfl, q _ hf⟩
  exact ⟨z, us, 0, r, Heap.get?_push_size _ rfl⟩
end

abbrev Sp := List V → Hp → VK → XK → Prop
abbrev CXT := List Env → Hp → Shared → XK → Value → Shared → Prop

structure Env0 (P : Program) (w : World) (K : PySem.W.Frag) (mg : Str → Option Value) (base : Heap) (A : Around) (outer : List Env) (s : Shared) (H : Hp) : Prop where
  frames : A.frames = some outer
  mod : Mod K mg base
  bs : ∀ b o, base.get? b = some o → s.heap.get? b = some o ∧ H b = none
  bsz : base.objs.size ≤ s.heap.objs.size
  funs : s.heap.FunFrames base outer
  frf : ∀ b ∈ frs outer, H b = none
  hok : HOk P w H s.heap
  bare : AllBare s.gens
def CE (outer : List Env) (P : Program) (w : World) (H : Hp) (s : Shared) (Q : VK) (u : Value) (s' : Shared) : Prop :=
  ∃ v H', s'.os = s.os ∧ AllBare s'.gens ∧ Un (frs outer) [] H H' s.heap s'.heap ∧ HOk P w H' s'.heap ∧ RelV v u ∧ Q v H'
def CR (CX : CXT) (outer : List Env) (P : Program) (w : World) (H : Hp) (s : Shared) (Q : VK) (E : XK) (r : Result) (s' : Shared) : Prop :=
  match r with
  | .ok (.ret u) => CE outer P w H s Q u s'
  | .ok _ => False
  | .error e => CX outer H s E e s'
structure FnOk (P : Program) (w : World) (K : PySem.W.Frag) (mg : Str → Option Value) (base : Heap) (CX : CXT) (k : Nat) (f : Addr) (fd : FuncData) (ps : List Str) (sp : Sp) : Prop where
  len : ∀ vs H Q E, sp vs H Q E → vs.length = ps.length
  run : ∀ (A : Around) (outer : List Env) (s : Shared) (H : Hp) (args : Args) (us : List Value) (vs : List V) (Q : VK) (E : XK), Room k A → Env0 P w K mg base A outer s H → BindsTo s fd args (ps.zip us) → Vals vs us → sp vs H Q E →
    codeAny (model P w) A (.call (.ref f) args) (CR CX outer P w H s Q E) s
theorem FnOk.mono {P : Program} {w : World} {K : PySem.W.Frag} {mg : Str → Option Value} {base : Heap} {CX : CXT} {j k : Nat} {f : Addr} {fd : FuncData} {ps : List Str} {sp : Sp} (F : FnOk P w K mg base CX j f fd ps sp) (h : j ≤ k) :
    FnOk P w K mg base CX k f fd ps sp := ⟨F.len, fun A outer s H args us vs Q E hr => F.run A outer s H args us vs Q E (hr.mono h)⟩
theorem FnOk.imp {P : Program} {w : World} {K : PySem.W.Frag} {mg : Str → Option Value} {base : Heap} {CX : CXT} {k : Nat} {f : Addr} {fd : FuncData} {ps : List Str} {sp sp' : Sp} (F : FnOk P w K mg base CX k f fd ps sp)
    (h : ∀ vs H Q E, sp' vs H Q E → sp vs H Q E) : FnOk P w K mg base CX k f fd ps sp' :=
  ⟨fun vs H Q E q => F.len vs H Q E (h _ _ _ _ q), fun A outer s H args us vs Q E hr he hb hv hs => F.run A outer s H args us vs Q E hr he hb hv (h _ _ _ _ hs)⟩

theorem Env0.in1 {P : Program} {w : World} {K : PySem.W.Frag} {mg : Str → Option Value} {base : Heap} {A : Around} {outer : List Env} {s : Shared} {H : Hp} (e : Env0 P w K mg base A outer s H) :
    Env0 P w K mg base A.in1 outer s H := ⟨e.frames, e.mod, e.bs, e.bsz, e.funs, e.frf, e.hok, e.bare⟩

section
variable {X : Cx} {pins : List (Addr × Obj)} {σ : St} {H : Hp} {s s' : Shared}
theorem Inv.env0 (I : Inv X pins σ H s) : Env0 X.prog X.w X.K X.mg X.base X.A X.stack s H :=
  ⟨I.ok.frames, I.ok.mod, I.bs, Nat.le_trans I.ok.bsz I.sz, I.stack, I.stkFree, I.hok, I.bare⟩
theorem Inv.after {Q : VK} {u : Value} (I : Inv X pins σ H s) (h : CE X.stack X.prog X.w H s Q u s') : EP X pins σ Q u s' := by
  obtain ⟨v, H', os, bare, un, hok, r, q⟩ := h
  obtain ⟨hh, g, d, t, os'⟩ := s'
  obtain rfl : os' = s.os := os
  exact ⟨v, H', I.call (h' := hh) (g' := g) (d' := d) (t' := t) (ch := []) un hok bare (fun b z => absurd z (by simp)), r, q⟩
end

def tCall (sp : Sp) (dvs : List V) (E : XK) (t : TA) : TE := fun σ H Q => t σ H fun vs H1 => sp (vs ++ dvs) H1 Q E
def Binds (K : PySem.W.Frag) (fd : FuncData) (ps : List Str) (ds : List Value) : Prop :=
  ∀ (s : Shared) (us : List Value), K.In s.heap → (us ++ ds).length = ps.length → BindsTo s fd ⟨us, []⟩ (ps.zip (us ++ ds))
theorem Binds.all {K : PySem.W.Frag} {fd : FuncData} {ps : List Str} (h : ∀ us : List Value, us.length = ps.length → bindArgs fd ⟨us, []⟩ = pure (ps.zip us)) : Binds K fd ps [] := fun s us _ hl => by
  rw [List.append_nil] at hl ⊢
  exact .of_eq (h us hl)

def Passes (CX : CXT) (X : Cx) (E : XK) : Prop := ∀ (pins : List (Addr × Obj)) (σ : St) (H : Hp) (s : Shared) (e : Value) (s' : Shared), Inv X pins σ H s → CX X.stack H s E e s' → X.xe e s'

section
variable {X : Cx} {CX : CXT} {k : Nat} {f C : Addr} {fd : FuncData} {ps : List Str} {sp : Sp} {dvs : List V} {ds : List Value} {E : XK} {x m : Str} {p pos apos : Pos} {e o : Expr} {es : List Expr} {ta : TE} {t : TA}

theorem run_fn {pins : List (Addr × Obj)} {σ : St} {H : Hp} {s : Shared} {Q : VK} {us : List Value} {vs : List V} (F : FnOk X.prog X.w X.K X.mg X.base CX k f fd ps sp) (hr : Room k X.A) (hb : Binds X.K fd ps ds) (hd : Vals dvs ds) (hx : Passes CX X E)
    (I : Inv X pins σ H s) (r : Vals vs us) (h : sp (vs ++ dvs) H Q E) : wpAny (model X.prog X.w) X.A (call (.ref f) us) (EP X pins σ Q) X.xe s := by
  have r2 : Vals (vs ++ dvs) (us ++ ds) := r.append hd
  have hl : (us ++ ds).length = ps.length := by rw [← r2.length]; exact F.len _ _ _ _ h
  refine wpAny_call (codeAny_mono (F.run X.A X.stack s H ⟨us, []⟩ (us ++ ds) (vs ++ dvs) Q E hr I.env0 (hb s us I.kIn hl) r2 h) fun r s' hq => ?_)
  cases r with
  | error e => exact hx pins σ H s e s' I hq
  | ok fl =>
    cases fl with
    | ret u => exact I.after hq
    | next => exact False.elim hq
    | brk => exact False.elim hq
    | cont => exact False.elim hq

theorem pe_call (F : FnOk X.prog X.w X.K X.mg X.base CX k f fd ps sp) (hr : Room k X.A) (hg : Gl X x) (hm : X.mg x = some (.ref f)) (hk : PySem.W.keepIn X.K (.ref f) = true) (hb : Binds X.K fd ps ds) (hd : Vals dvs ds) (hx : Passes CX X E)
    (ha : PA X (e :: es) t) (hdb : (x == ("__debug__" : Str)) = false := by decide) (he : starEach (e :: es) X.env = (false, eval e X.env) :: starEach es X.env := by rfl) (hpl : (backTo pos (starEach es X.env)).any (·.1) = false := by rfl) :
    PE X (.Call (.Name x p) (e :: es) [] pos) (tCall sp dvs E t) := by
  intro pins s σ H Q I h
  refine wpAny_Call_Name_kw (ld_glob I hg hm ?_ hdb)
  refine PySem.W.callWith_K (h₀ := X.base) I.ok.mod.kin hk (thn (ha pos pins s σ H _ I h) fun us s1 ⟨vs, H1, I1, r, q⟩ => ⟨I1.kIn, ?_⟩) he hpl
  exact run_fn F hr hb hd hx I1 r q
structure Mk (K : PySem.W.Frag) (C f : Addr) : Prop where
  makes : PySem.W.makesIn K C = true
  init : PySem.W.findIn K (.ref C) "__init__" = some (some (.ref f))
  fn : PySem.W.isFn K (.ref f) = true
  kp : PySem.W.keepIn K (.ref C) = true

end

def PK (X : Cx) (kws : List Keyword) (t : TA) : Prop :=
  ∀ (pos : Pos) (pins : List (Addr × Obj)) (s : Shared) (σ : St) (H : Hp) (Q : List V → Hp → Prop), Inv X pins σ H s → t σ H Q → wpAny (model X.prog X.w) X.A (evalAll ((backToKw pos (keywordEach kws X.env)).map (·.2))) (AP X pins σ Q) X.xe s
section
variable {X : Cx} {CX : CXT} {k : Nat} {f C : Addr} {fd : FuncData} {ps ks : List Str} {sp : Sp} {E : XK} {x m : Str} {p pos apos kpos : Pos} {e o : Expr} {es : List Expr} {kws : List Keyword} {te ta : TE} {t tk : TA} {nm : Option Str}
theorem pk_nil : PK X [] tNil := fun _ _ _ _ H Q I h => wpAny_evalAll_nil ⟨[], H, I, .nil, h⟩
theorem pk_cons (ha : PE X e te) (hr : PK X kws t) : PK X (⟨nm, e, kpos⟩ :: kws) (tCons te t) := by
  intro pos pins s σ H Q I h
  show wpAny _ _ (evalAll ((do let v ← eval e X.env; standAt pos; pure v) :: (backToKw pos (keywordEach kws X.env)).map (·.2))) _ _ s
  refine wpAny_evalAll_cons (wpAny_bind (thn (ha pins s σ H _ I h) fun u s1 ⟨x, H1, I1, r1, q1⟩ => wpAny_bind (wpAny_standAt (wpAny_pure ?_))))
  exact thn (hr pos pins s1 σ H1 _ I1 q1) fun us s2 ⟨xs, H2, I2, r2, q2⟩ => ⟨x :: xs, H2, I2, .cons r1 r2, q2⟩

structure KBinds (K : PySem.W.Frag) (fd : FuncData) (ps ks : List Str) (g : List Value → List Value → List Value) (gV : List V → List V → List V) : Prop where
  to : ∀ (s : Shared) (us ws : List Value), K.In s.heap → (g us ws).length = ps.length → BindsTo s fd ⟨us, ks.zip ws⟩ (ps.zip (g us ws))
  rel : ∀ {vs : List V} {us : List Value} {zs : List V} {ws : List Value}, Vals vs us → Vals zs ws → Vals (gV vs zs) (g us ws)
variable {g : List Value → List Value → List Value} {gV : List V → List V → List V}
end

structure FnScope (N P : List Str) (sc : Scope) : Prop where
  kind : sc.kind = .function
  co : sc.isCoroutine = false
  gen : sc.isGenerator = false
  nd : N.Nodup
  pre : N.take P.length = P
  par : ∀ x ∈ P, sc.names.lookup x = some .local ∨ sc.names.lookup x = some .cell
  nofree : ∀ y ∈ sc.names, y.2 ≠ .free

theorem bindL_out {kindOf : Str → Option NameKind} {x : Str} : ∀ {binds : List (Str × Value)} {m : Str → Option Value}, (∀ v, (x, v) ∉ binds) → bindL kindOf binds m x = m x
  | [], _, _ => rfl
  | (n, v) :: r, m, h => by
    unfold bindL
    rw [bindL_out fun w hw => h w (List.mem_cons_of_mem _ hw)]
    split
    · have : x ≠ n := by rintro rfl; exact h v List.mem_cons_self
      simp [this]
    · rfl
theorem bindC_out {kindOf : Str → Option NameKind} {x : Str} : ∀ {binds : List (Str × Value)} {m : Str → Option Value}, (∀ v, (x, v) ∉ binds) → bindC kindOf binds m x = m x
  | [], _, _ => rfl
  | (n, v) :: r, m, h => by
    unfold bindC
    rw [bindC_out fun w hw => h w (List.mem_cons_of_mem _ hw)]
    split
    · rfl
    · have : x ≠ n := by rintro rfl; exact h v List.mem_cons_self
      simp [this]
theorem bindL_get {kindOf : Str → Option NameKind} {x : Str} {v : Value} : ∀ {P : List Str} {vs : List Value} {i : Nat} {m : Str → Option Value}, P.Nodup → P[i]? = some x → vs[i]? = some v → kindOf x = some .local →
    bindL kindOf (P.zip vs) m x = some v
  | [], _, _, _, _, h, _, _ => by simp at h
  | _ :: _, [], _, _, _, _, h, _ => by simp at h
  | p :: P, w :: vs, 0, m, nd, h1, h2, hk => by
    simp at h1 h2; subst h1; subst h2
    show bindL kindOf ((p, w) :: P.zip vs) m p = _
    unfold bindL
    rw [bindL_out fun v hv => (List.nodup_cons.mp nd).1 (List.of_mem_zip hv).1, if_pos hk]
    simp
  | p :: P, w :: vs, i + 1, m, nd, h1, h2, hk => by
    show bindL kindOf ((p, w) :: P.zip vs) m x = _
    unfold bindL
    exact bindL_get (i := i) (List.nodup_cons.mp nd).2 (by simpa using h1) (by simpa using h2) hk
theorem bindC_get {kindOf : Str → Option NameKind} {x : Str} {v : Value} : ∀ {P : List Str} {vs : List Value} {i : Nat} {m : Str → Option Value}, P.Nodup → P[i]? = some x → vs[i]? = some v → kindOf x ≠ some .local →
    bindC kindOf (P.zip vs) m x = some v
  | [], _, _, _, _, h, _, _ => by simp at h
  | _ :: _, [], _, _, _, _, h, _ => by simp at h
  | p :: P, w :: vs, 0, m, nd, h1, h2, hk => by
    simp at h1 h2; subst h1; subst h2
    show bindC kindOf ((p, w) :: P.zip vs) m p = _
    unfold bindC
    rw [bindC_out fun v hv => (List.nodup_cons.mp nd).1 (List.of_mem_zip hv).1, if_neg hk]
    simp
  | p :: P, w :: vs, i + 1, m, nd, h1, h2, hk => by
    show bindC kindOf ((p, w) :: P.zip vs) m x = _
    unfold bindC
    exact bindC_get (i := i) (List.nodup_cons.mp nd).2 (by simpa using h1) (by simpa using h2) hk

def start (N : List Str) (vs : List V) : St := vs.map some ++ List.replicate (N.length - vs.length) none

def cxOf (CX : CXT) (P : Program) (w : World) (K : PySem.W.Frag) (mg : Str → Option Value) (base : Heap) (N : List Str) (qual : Str) (scope : Scope) (f : Addr) (cd : Value) (A : Around) (outer : List Env) (s : Shared) (H : Hp) (E : XK) : Cx where
  prog := P
  w := w
  K := K
  mg := mg
  base := base
  A := A.deeper (envOfC qual scope s.heap.objs.size f cd)
  N := N
  s_0 := s
  H_0 := H
  env := envOfC qual scope s.heap.objs.size f cd
  outer := outer
  stack := envOfC qual scope s.heap.objs.size f cd :: outer
  ex := []
  calm := true
  fn := fun _ => true
  pn := []
  xe := fun e s' => wpAny (model P w) (A.deeper (envOfC qual scope s.heap.objs.size f cd)) (leaving (envOfC qual scope s.heap.objs.size f cd) e) (fun _ s'' => CX outer H s E e s'') (fun e' s'' => CX outer H s E e' s'') s'

theorem cell_has {sc : Scope} {n : Nat} {x : Str} (h : sc.names.lookup x = some .cell) : ∃ c, (cellsFrom n sc.names []).lookup x = some c := by
  have q := PySem.W.cellsFrom_some sc.names n [] (.inl h)
  exact Option.isSome_iff_exists.mp q

theorem inv_start {CX : CXT} {P : Program} {w : World} {K : PySem.W.Frag} {mg : Str → Option Value} {base : Heap} {N ps : List Str} {qual : Str} {scope : Scope} {f : Addr} {cd : Value} {A : Around} {outer : List Env} {s s1 : Shared} {H : Hp} {E : XK} {us : List Value} {vs : List V}
    (S : FnScope N ps scope) (hd : A.handled = none) (e0 : Env0 P w K mg base A outer s H) (hl : vs.length = ps.length) (r : Vals vs us)
    (x : InCallC s s.heap.objs.size (bindL (envOfC qual scope s.heap.objs.size f cd).kindOf (ps.zip us) fun _ => none) (cellsFrom (s.heap.objs.size + 1) scope.names []) (bindC (envOfC qual scope s.heap.objs.size f cd).kindOf (ps.zip us) fun _ => none) s1) :
    Inv (cxOf CX P w K mg base N qual scope f cd A outer s H E) [] (start N vs) H s1 := by
  have hpl : ps.length ≤ N.length := by have := congrArg List.length S.pre; rw [List.length_take] at this; omega
  obtain ⟨h1, tk, rfl, hk⟩ := x.done
  have noA : ∀ b : Addr, b ∉ (cxOf CX P w K mg base N qual scope f cd A outer s H E).ex := fun b z => absurd (show b ∈ ([] : List Addr) from z) (by simp)
  refine ⟨⟨e0.mod, S.kind, rfl, rfl, Nat.le_refl _, fun y z c h1 h2 => ?_, fun y hy => ?_, fun y c _ h => ?_, fun _ => hd, Around.frames_deeper e0.frames, .inr ⟨rfl, rfl⟩, fun b z => absurd z (noA b), e0.bs, e0.bsz, fun b _ _ => noA b, fun b z => absurd z (noA b), e0.funs, e0.frf⟩,
    rfl, e0.bare, Un.kept hk, ⟨_, x.toInCall.ns, fun i y v h1 h2 h3 => ?_⟩, fun y c h => ⟨_, x.cell y c h⟩, e0.hok.fresh (Nat.le_refl _), fun y c h => ?_, fun p hp => absurd (show p ∈ ([] : List (Addr × Obj)) from hp) (by simp), e0.hok.kept hk, ?_⟩
  · exact name_of_addr x.apart (PySem.mem_of_lookup h1) (PySem.mem_of_lookup h2)
  · have hy : scope.names.lookup y = some .cell ∨ scope.names.lookup y = some .free := hy
    rcases hy with hy | hy
    · exact cell_has hy
    · exact absurd rfl (S.nofree _ (PySem.mem_of_lookup hy))
  · exact Nat.le_of_lt (x.above y c (PySem.mem_of_lookup h))
  · have hi : i < vs.length := by
      unfold start at h2
      by_cases hi : i < vs.length
      · exact hi
      · rw [List.getElem?_append_right (by simpa using hi)] at h2
        rw [List.getElem?_replicate] at h2
        split at h2 <;> cases h2
    have ha : vs[i]? = some v := by
      unfold start at h2
      rw [List.getElem?_append_left (by simpa using hi), List.getElem?_map] at h2
      cases e : vs[i]? with
      | none => rw [e] at h2; cases h2
      | some a => rw [e] at h2; cases h2; rfl
    obtain ⟨u, hu, rv⟩ := r.get ha
    have hp : ps[i]? = some y := by
      rw [← S.pre, List.getElem?_take_of_lt (by omega)]; exact h1
    have ndP : ps.Nodup := by rw [← S.pre]; exact S.nd.sublist (List.take_sublist _ _)
    refine ⟨u, rv, ?_⟩
    rcases S.par y (List.mem_of_getElem? hp) with k | k
    · exact .inl ⟨k, bindL_get ndP hp hu k⟩
    · obtain ⟨c, e⟩ := cell_has (n := s.heap.objs.size + 1) k
      refine .inr ⟨.inl k, c, e, ?_⟩
      have q := x.cell y c e
      rw [bindC_get ndP hp hu (by show scope.names.lookup y ≠ _; rw [k]; decide)] at q
      exact q
  · exact e0.hok.fresh (Nat.le_of_lt (x.above y c (PySem.mem_of_lookup h)))
  · unfold start
    show _ = N.length
    rw [List.length_append, List.length_map, List.length_replicate]
    omega

theorem fn_of {CX : CXT} {P : Program} {w : World} {K : PySem.W.Frag} {mg : Str → Option Value} {base : Heap} {k : Nat} {f : Addr} {name qual : Str} {params : Arguments} {body : List Stmt} {scope : Scope} {dV kV doc pm cdv ct oc : Value} {an od : Option Addr}
    {osl : Array (Option Value)} {N ps : List Str} {sp : Sp} (lk : K.lookup f = some ⟨oc, od, .func (PySem.W.fnOf name qual params body scope dV kV doc pm an cdv ct), osl⟩) (hcd : PySem.W.codeIn K cdv qual = true) (S : FnScope N ps scope)
    (len : ∀ vs H Q E, sp vs H Q E → vs.length = ps.length)
    (hbody : ∀ (A : Around) (outer : List Env) (s : Shared) (H : Hp) (vs : List V) (Q : VK) (E : XK), Room k (A.deeper (envOfC qual scope s.heap.objs.size f cdv)) → sp vs H Q E →
      ∃ t, PSs (cxOf CX P w K mg base N qual scope f cdv A outer s H E) body t ∧ t { nx := fun _ H' => Q .non H', rt := Q } (start N vs) H) :
    FnOk P w K mg base CX (k + 1) f (PySem.W.fnOf name qual params body scope dV kV doc pm an cdv ct) ps sp := by
  refine ⟨len, fun A outer s H args us vs Q E hr e0 hb r hsp => ?_⟩
  have hl := len _ _ _ _ hsp
  have KX : K.In s.heap := e0.mod.kin.keeps fun b o e => (e0.bs b o e).1
  have lim : s.heap.NoLimit := e0.mod.nolimit.keeps fun b o e => (e0.bs b o e).1
  have hkind : ∀ y ∈ ps.zip us, scope.names.lookup y.1 = some .local ∨ (scope.names.lookup y.1 = some .cell ∧ ((cellsFrom (s.heap.objs.size + 1) scope.names []).lookup y.1).isSome = true) := fun ⟨n, v⟩ hy => by
    rcases S.par n (List.of_mem_zip hy).1 with q | q
    · exact .inl q
    · exact .inr ⟨q, PySem.W.cellsFrom_some _ _ _ (.inl q)⟩
  refine codeAny_call_function hr.depth (KX _ _ lk) rfl S.co S.gen rfl (PySem.W.codeRec_of KX hcd) (hb _ _ _ _ ?_)
  refine wpAny_newFunctionEnv_cells S.kind hkind fun env he s1 x => ?_
  subst he
  refine ⟨lim.keeps x.toInCall.keep, codeAny_func ?_⟩
  obtain ⟨t, ht, hq⟩ := hbody A outer s H vs Q E (hr.deeper _) hsp
  have I : Inv (cxOf CX P w K mg base N qual scope f cdv A outer s H E) [] (start N vs) H s1 := inv_start S hr.hd e0 hl r x
  refine wpAny_mono (ht [] s1 (start N vs) H _ I hq) (fun fl s' hs => ?_) fun e s' hs => hs
  have fin : ∀ {σ' : St} {H' : Hp} {v : V} {u : Value}, Inv (cxOf CX P w K mg base N qual scope f cdv A outer s H E) [] σ' H' s' → RelV v u → Q v H' → CE outer P w H s Q u s' :=
    fun {σ' H' v u} J rv q => ⟨v, H', J.os, J.bare, J.base, J.hok, rv, q⟩
  cases fl with
  | ret u =>
    obtain ⟨v, σ', H', J, rv, q⟩ := hs
    exact fin J rv q
  | next =>
    obtain ⟨σ', H', J, q⟩ := hs
    exact fin (v := V.non) (u := Value.none) J rfl q
  | brk =>
    obtain ⟨_, _, _, q⟩ := hs
    exact False.elim q
  | cont =>
    obtain ⟨_, _, _, q⟩ := hs
    exact False.elim q
end L2

namespace L2
open PySem PySem.Spec PyProof.Rows
section
variable {X : Cx} {x : Str} {p pos : Pos} {e : Expr} {es : List Expr} {t : TA} {id T : String} {r : List V → Hp → VK → Prop}

def tCB (r : List V → Hp → VK → Prop) (t : TA) : TE := fun σ H Q => t σ H fun vs H1 => r vs H1 Q
theorem pe_callB (hc : CallR X (.builtin id) r) (hg : Gl X x) (hm : X.mg x = none) (hv : bootBuiltins x = some (.builtin id)) (ha : PA X (e :: es) t) (hn : x ≠ "__name__" := by decide) (hdb : (x == ("__debug__" : Str)) = false := by decide)
    (he : starEach (e :: es) X.env = (false, eval e X.env) :: starEach es X.env := by rfl) (hpl : (backTo pos (starEach es X.env)).any (·.1) = false := by rfl) : PE X (.Call (.Name x p) (e :: es) [] pos) (tCB r t) := by
  intro pins s σ H Q I h
  refine wpAny_Call_Name_kw (ld_blt I hg hm hv ?_ hn hdb)
  exact PyProof.Rows.callWith_builtin1 (thn (ha pos pins s σ H _ I h) fun us s1 ⟨vs, H1, I1, r1, q1⟩ => hc pins s1 σ H1 vs us Q I1 r1 q1) he hpl
theorem pe_callTy (hc : CallR X (.type T) r) (hg : Gl X x) (hm : X.mg x = none) (hv : bootBuiltins x = some (.type T)) (ha : PA X (e :: es) t) (hn : x ≠ "__name__" := by decide) (hdb : (x == ("__debug__" : Str)) = false := by decide)
    (he : starEach (e :: es) X.env = (false, eval e X.env) :: starEach es X.env := by rfl) (hpl : (backTo pos (starEach es X.env)).any (·.1) = false := by rfl) : PE X (.Call (.Name x p) (e :: es) [] pos) (tCB r t) := by
  intro pins s σ H Q I h
  refine wpAny_Call_Name_kw (ld_blt I hg hm hv ?_ hn hdb)
  exact PyProof.Rows.callWith_type1 (thn (ha pos pins s σ H _ I h) fun us s1 ⟨vs, H1, I1, r1, q1⟩ => hc pins s1 σ H1 vs us Q I1 r1 q1) he hpl
end
end L2

namespace HT
open PySem PyProof.Rows

section
open PySem.SeqAt
open PySem.AutoSeq1 (wpAny_loadPart')
open PySem.MeetsSeq PySem.MeetsSeq2 PySem.MeetsSeq3

end

section
variable {prog : Program} {w : World} {A : Around} {E : Value → Shared → Prop} {s : Shared}

def sIx (n d : Nat) : Option Int → Nat
  | none => d
  | some v => if v < 0 then (v + (n : Int)).toNat else min v.toNat n
theorem sIx_none (n d : Nat) : sIx n d none = d := rfl
theorem sIx_nat (n d k : Nat) : sIx n d (some (k : Int)) = min k n := by
  show (if (k : Int) < 0 then ((k : Int) + (n : Int)).toNat else min (k : Int).toNat n) = min k n
  rw [if_neg (by omega), Int.toNat_natCast]
theorem sIx_le (n d : Nat) (hd : d ≤ n) (o : Option Int) : sIx n d o ≤ n := by
  cases o with
  | none => exact hd
  | some v =>
    show (if v < 0 then (v + (n : Int)).toNat else min v.toNat n) ≤ n
    by_cases hv : v < 0
    · rw [if_pos hv]; omega
    · rw [if_neg hv]; exact Nat.min_le_right _ _
end
end HT

namespace L2
open PySem PySem.Spec PyProof.Rows

abbrev TO := St → Hp → (Option Int → Hp → Prop) → Prop
def PO (X : Cx) (e : Option Expr) (t : TO) : Prop :=
  ∀ (pins : List (Addr × Obj)) (s : Shared) (σ : St) (H : Hp) (Q : Option Int → Hp → Prop), Inv X pins σ H s → t σ H Q →
    wpAny (model X.prog X.w) X.A (evalPart e X.env) (fun u s' => ∃ o H', Inv X pins σ H' s' ∧ IsPart u o ∧ Q o H') X.xe s
def tNoPart : TO := fun _ H Q => Q none H
def tPart (t : TE) : TO := fun σ H Q => t σ H fun x H1 => ∃ i, x = .int i ∧ Q (some i) H1

section
variable {X : Cx} {e : Expr} {te : TE} {lo hi : Option Expr} {tl th : TO} {pos p2 : Pos}

theorem po_none : PO X none tNoPart := by
  intro pins s σ H Q I h
  rw [evalPart_none]
  exact wpAny_pure ⟨none, H, I, .none, h⟩
theorem po_some (h : PE X e te) : PO X (some e) (tPart te) := by
  intro pins s σ H Q I hw
  rw [evalPart_some]
  refine thn (h pins s σ H _ I hw) fun u s1 ⟨x, H1, I1, r1, q1⟩ => ?_
  obtain ⟨i, rfl, q⟩ := q1
  obtain ⟨t, rfl⟩ := r1
  exact ⟨some i, H1, I1, .int i t, q⟩

def SlR (X : Cx) (r : V → Option Int → Option Int → Hp → VK → Prop) : Prop :=
  ∀ (pins : List (Addr × Obj)) (s : Shared) (σ : St) (H : Hp) (x : V) (v vl vu : Value) (lo hi : Option Int) (sl : Addr) (Q : VK), Inv X pins σ H s → RelV x v → s.heap.IsSliceOf sl vl vu .none → IsPart vl lo → IsPart vu hi → r x lo hi H Q →
    ∃ T id, typeLookup (.type T) "__getitem__" = pure (some (.builtin id)) ∧ s.TypeIs v T ∧ wpAny (model X.prog X.w) X.A (getItem v (.ref sl)) (EP X pins σ Q) X.xe s
theorem SlR.or {r r' : V → Option Int → Option Int → Hp → VK → Prop} (h : SlR X r) (h' : SlR X r') : SlR X (fun x lo hi H Q => r x lo hi H Q ∨ r' x lo hi H Q) := by
  intro pins s σ H x v vl vu lo hi sl Q I rx hs pl pu q
  rcases q with q | q
  · exact h pins s σ H x v vl vu lo hi sl Q I rx hs pl pu q
  · exact h' pins s σ H x v vl vu lo hi sl Q I rx hs pl pu q
def tSl (r : V → Option Int → Option Int → Hp → VK → Prop) (te : TE) (tl th : TO) : TE := fun σ H Q => te σ H fun x H1 => tl σ H1 fun l H2 => th σ H2 fun u H3 => r x l u H3 Q
theorem pe_slice {r : V → Option Int → Option Int → Hp → VK → Prop} (hr : SlR X r) (he : PE X e te) (hl : PO X lo tl) (hu : PO X hi th) : PE X (.Subscript e (.Slice lo hi none p2) pos) (tSl r te tl th) := by
  intro pins s σ H Q I h
  refine Subscript_ (thn (he pins s σ H _ I h) fun v s1 ⟨x, H1, I1, r1, q1⟩ => ?_)
  refine wpAny_Slice (thn (hl pins s1 σ H1 _ I1 q1) fun vl s2 ⟨l, H2, I2, pl, q2⟩ => thn (hu pins s2 σ H2 _ I2 q2) fun vu s3 ⟨u, H3, I3, pu, q3⟩ => ?_)
  rw [evalPart_none]
  refine wpAny_pure ?_
  have I4 : Inv X pins σ H3 { s3 with heap := s3.heap.push { cls := .type "slice", data := .fields #[vl, vu, .none] } } := I3.kept (t' := s3.toks) fun b ob q => Heap.get?_push_of_some _ q
  obtain ⟨T, id, hT, ht, hg⟩ := hr pins { s3 with heap := s3.heap.push { cls := .type "slice", data := .fields #[vl, vu, .none] } } σ H3 x v vl vu l u s3.heap.objs.size Q I4 r1 (Heap.IsSliceOf.new ..) pl pu q3
  show wpAny (model X.prog X.w) X.A (subscriptTail e (.Slice lo hi none p2) v (.ref s3.heap.objs.size)) (EP X pins σ Q) X.xe { s3 with heap := s3.heap.push { cls := .type "slice", data := .fields #[vl, vu, .none] } }
  exact tail_any (ops := [.ref s3.heap.objs.size, v]) ht hT hg (by with_unfolding_all rfl)

def cutV (xs : List V) (lo hi : Option Int) : List V := (xs.drop (HT.sIx xs.length 0 lo)).take (HT.sIx xs.length xs.length hi - HT.sIx xs.length 0 lo)
theorem cutV_length (xs : List V) (lo hi : Option Int) : (cutV xs lo hi).length ≤ xs.length := by
  unfold cutV
  rw [List.length_take, List.length_drop]
  omega
end
end L2

namespace L2
open PySem PySem.Spec PyProof.Rows

def ixN (n : Nat) (i : Int) : Option Nat := if 0 ≤ i then (if i < n then some i.toNat else none) else if -(n : Int) ≤ i then some (i + n).toNat else none
def atI {α : Type} (xs : List α) (i : Int) : Option α := (ixN xs.length i).bind fun j => xs[j]?
theorem ixN_seq {n : Nat} {i : Int} {j : Nat} (h : ixN n i = some j) : seqIndex? i n = some j ∧ j < n ∧ -(n : Int) ≤ i ∧ i < n := by
  unfold ixN at h
  by_cases h0 : 0 ≤ i
  · rw [if_pos h0] at h
    by_cases h1 : i < n
    · rw [if_pos h1] at h
      have e : i.toNat = j := Option.some.inj h
      exact ⟨by rw [seqIndex_of h0 h1, e], by omega, by omega, h1⟩
    · rw [if_neg h1] at h; cases h
  · rw [if_neg h0] at h
    by_cases h1 : -(n : Int) ≤ i
    · rw [if_pos h1] at h
      have e : (i + n).toNat = j := Option.some.inj h
      exact ⟨by rw [seqIndex_neg (by omega) h1, e], by omega, h1, by omega⟩
    · rw [if_neg h1] at h; cases h
theorem atI_get {α : Type} {xs : List α} {i : Int} {v : α} (h : atI xs i = some v) : ∃ j, seqIndex? i xs.length = some j ∧ xs[j]? = some v ∧ j < xs.length ∧ -(xs.length : Int) ≤ i ∧ i < xs.length := by
  unfold atI at h
  cases e : ixN xs.length i with
  | none => rw [e] at h; cases h
  | some j =>
    rw [e] at h
    obtain ⟨h1, h2, h3, h4⟩ := ixN_seq e
    exact ⟨j, h1, h, h2, h3, h4⟩
theorem atI_nat {α : Type} {xs : List α} {j : Nat} {v : α} (h : xs[j]? = some v) : atI xs (j : Int) = some v := by
  have hj : j < xs.length := (List.getElem?_eq_some_iff.mp h).1
  have e : ixN xs.length (j : Int) = some j := by
    unfold ixN
    rw [if_pos (by omega), if_pos (by omega)]; simp
  unfold atI; rw [e]; exact h
def IxR (X : Cx) (r : R2) : Prop :=
  ∀ (value slice : Expr) (pins : List (Addr × Obj)) (s : Shared) (σ : St) (H : Hp) (x y : V) (v u : Value) (Q : VK), Inv X pins σ H s → RelV x v → RelV y u → r x y H Q →
    subscripted slice false v u = operate [v, u] (getItem v u) → wpAny (model X.prog X.w) X.A (subscriptTail value slice v u) (EP X pins σ Q) X.xe s
def MtR (X : Cx) (id : String) (r : V → List V → Hp → VK → Prop) : Prop :=
  ∀ (pins : List (Addr × Obj)) (s : Shared) (σ : St) (H : Hp) (x : V) (xs : List V) (v : Value) (us : List Value) (Q : VK), Inv X pins σ H s → RelV x v → Vals xs us → r x xs H Q →
    wpAny (model X.prog X.w) X.A (call (.builtin id) (v :: us)) (EP X pins σ Q) X.xe s
section
variable {X : Cx} {a b : Expr} {ta tb : TE} {pos : Pos}
theorem IxR.or {r r' : R2} (h : IxR X r) (h' : IxR X r') : IxR X (fun x y H Q => r x y H Q ∨ r' x y H Q) := by
  intro value slice pins s σ H x y v u Q I rx ry q hs
  rcases q with q | q
  · exact h value slice pins s σ H x y v u Q I rx ry q hs
  · exact h' value slice pins s σ H x y v u Q I rx ry q hs
theorem MtR.or {id : String} {r r' : V → List V → Hp → VK → Prop} (h : MtR X id r) (h' : MtR X id r') : MtR X id (fun x xs H Q => r x xs H Q ∨ r' x xs H Q) := by
  intro pins s σ H x xs v us Q I rx rs q
  rcases q with q | q
  · exact h pins s σ H x xs v us Q I rx rs q
  · exact h' pins s σ H x xs v us Q I rx rs q
def rIxL (K : PySem.W.Frag) : R2 := fun x y H Q => ∃ p xs i v, x = .ref p ∧ y = .int i ∧ SqL K H p xs ∧ atI xs i = some v ∧ Q v H
def rIxT (K : PySem.W.Frag) : R2 := fun x y H Q => ∃ p xs i v, x = .ref p ∧ y = .int i ∧ SqT K H p xs ∧ atI xs i = some v ∧ Q v H
def rIxS : R2 := fun x y H Q => ∃ z i c, x = .str z ∧ y = .int i ∧ z.length ≤ sizeLine ∧ atI z.cps.toList i = some c ∧ Q (.str ⟨#[c]⟩) H
theorem ix_list : IxR X (rIxL X.K) := by
  intro value slice pins s σ H x y v u Q I rx ry h hs
  obtain ⟨p, xs, i, z, rfl, rfl, hq, he, q⟩ := h
  cases rx
  obtain ⟨t, rfl⟩ := ry
  obtain ⟨its, r, pl, hz⟩ := I.list hq
  obtain ⟨j, h1, h2, h3, h4, h5⟩ := atI_get he
  obtain ⟨w, ew, rw'⟩ := r.get h2
  have hl := r.length
  have hn := line63
  have fin : EP X pins σ Q w s := ⟨z, H, I, rw', q⟩
  by_cases h0 : 0 ≤ i
  · have hj : i.toNat = j := by
      rw [seqIndex_of h0 h5] at h1
      exact Option.some.inj h1
    exact item_listR pl.isList h0 (by omega) (by rw [hj]; simpa using ew) fin hs
  · have hj : (i + (its.toArray.size : Int)).toNat = j := by
      rw [seqIndex_neg (by omega) h4] at h1
      rw [List.size_toArray, ← hl]
      exact Option.some.inj h1
    exact subscriptTail_builtinR (x := w) pl.isList.typeIs slot_list_getitem.lookup
      (wpAny_getItem_list_neg (Q := fun r s' => r = w ∧ EP X pins σ Q r s') pl.isList (by omega) (by rw [List.size_toArray] <;> omega) (by omega) (by rw [hj]; simpa using ew) ⟨rfl, fin⟩) hs
theorem ix_tup : IxR X (rIxT X.K) := by
  intro value slice pins s σ H x y v u Q I rx ry h hs
  obtain ⟨p, xs, i, z, rfl, rfl, hq, he, q⟩ := h
  cases rx
  obtain ⟨t, rfl⟩ := ry
  obtain ⟨its, r, pl, hz⟩ := I.tuple hq
  obtain ⟨j, h1, h2, h3, h4, h5⟩ := atI_get he
  obtain ⟨w, ew, rw'⟩ := r.get h2
  have hl := r.length
  have hn := line63
  have fin : EP X pins σ Q w s := ⟨z, H, I, rw', q⟩
  exact subscriptTail_builtinR (x := w) pl.typeIs slot_tuple_getitem.lookup
    (getItem_tuple (j := j) (Q := fun r s' => r = w ∧ EP X pins σ Q r s') pl (by omega) (by omega) (by rw [List.size_toArray, ← hl]; exact h1) (by simpa using ew) ⟨rfl, fin⟩) hs
theorem ix_str : IxR X rIxS := by
  intro value slice pins s σ H x y v u Q I rx ry h hs
  obtain ⟨z, i, c, rfl, rfl, hz, he, q⟩ := h
  obtain ⟨t, rfl⟩ := rx
  obtain ⟨t', rfl⟩ := ry
  obtain ⟨j, h1, h2, h3, h4, h5⟩ := atI_get he
  have hl : z.cps.toList.length = z.length := by simp [Str.length]
  rw [hl] at h1 h4 h5
  have hn := line63
  exact tail_any (typeIs_str s z t) slot_str_getitem.lookup (getItem_str (c := c) (by
    have e1 : decide (i < -(2 ^ 63 : Int)) = false := decide_eq_false (by omega)
    have e2 : decide (i ≥ 2 ^ 63) = false := decide_eq_false (by omega)
    rw [e1, e2, Bool.or_false]) (by rw [h1]; simpa using h2) ⟨.str ⟨#[c]⟩, H, I.tok _, ⟨_, rfl⟩, q⟩) hs
theorem mapSeq_set (its : List Value) (n j : Nat) (u : Value) : Obj.mapSeq (·.setIfInBounds j u) { cls := .type "list", data := .seq its.toArray n } = { cls := .type "list", data := .seq (its.set j u).toArray n } := by
  simp [Obj.mapSeq]
theorem Inv.lst {pins : List (Addr × Obj)} {σ : St} {H : Hp} {s : Shared} {p : Addr} {xs : List V} (I : Inv X pins σ H s) (h : H p = some (.lst xs)) :
    ∃ (its : List Value) (n : Nat), Vals xs its ∧ s.heap.get? p = some { cls := .type "list", data := .seq its.toArray n } ∧ xs.length ≤ sizeLine := by
  obtain ⟨z, its, n, r, e⟩ := I.hok p _ h
  exact ⟨its, n, r, e, z⟩
theorem Inv.lstUpd {pins : List (Addr × Obj)} {σ : St} {H : Hp} {s : Shared} {p : Addr} {xs ys : List V} {its its' : List Value} {n n' : Nat} {f : Obj → Obj} (I : Inv X pins σ H s) (h : H p = some (.lst xs))
    (ho : s.heap.get? p = some { cls := .type "list", data := .seq its.toArray n }) (hf : f { cls := .type "list", data := .seq its.toArray n } = { cls := .type "list", data := .seq its'.toArray n' }) (r : Vals ys its') (hz : ys.length ≤ sizeLine) (t : Nat) :
    Inv X pins σ (upd H p (.lst ys)) { s with heap := s.heap.update p f, toks := t } := by
  have e : (s.heap.update p f).get? p = some { cls := .type "list", data := .seq its'.toArray n' } := by
    rw [Heap.get?_update_self f ho (by rw [hf] <;> rfl), hf]
  refine I.write (x := p) (e := p) (by rw [h]; trivial) (.inl rfl) (fun b u hb q => (Heap.get?_update_other _ _ (Ne.symm hb)).trans q) ⟨_, e⟩ ?_
  exact ⟨hz, its', n', r, e⟩
def rSetL : V → V → V → Hp → (Hp → Prop) → Prop := fun o i v H Q => ∃ p xs k j, o = .ref p ∧ i = .int k ∧ H p = some (.lst xs) ∧ ixN xs.length k = some j ∧ Q (upd H p (.lst (xs.set j v)))
theorem set_list : PSet X rSetL := by
  intro pins s σ H o i v ov iv u Q I ro ri rv h
  obtain ⟨p, xs, k, j, rfl, rfl, hp, hj, q⟩ := h
  cases ro
  obtain ⟨t, rfl⟩ := ri
  obtain ⟨its, n, r, ho, hz⟩ := I.lst hp
  obtain ⟨h1, h2, h3, h4⟩ := ixN_seq hj
  have hl := r.length
  have hn := line63
  have I' : Inv X pins σ (upd H p (.lst (xs.set j v))) { s with heap := s.heap.update p (Obj.mapSeq (·.setIfInBounds j u)) } :=
    I.lstUpd hp ho (mapSeq_set its n j u) (r.set rv j) (by rw [List.length_set]; exact hz) s.toks
  by_cases h0 : 0 ≤ k
  · have hk : k.toNat = j := by
      rw [seqIndex_of h0 h4] at h1
      exact Option.some.inj h1
    exact PySem.W.ki_setAt ho h0 (by omega) (by rw [List.size_toArray, ← hl]; exact h4) (by rw [hk]; exact ⟨_, I', q⟩)
  · have hk : (k + (its.toArray.size : Int)).toNat = j := by
      rw [seqIndex_neg (by omega) h3] at h1
      rw [List.size_toArray, ← hl]
      exact Option.some.inj h1
    exact PySem.W.ki_setBack ho (by omega) (by rw [List.size_toArray, ← hl]; exact h3) (by omega) (by rw [hk]; exact ⟨_, I', q⟩)

theorem slice_bounds (lo hi : Option Int) (n : Nat) : (sliceBounds lo hi none n).1 = ((HT.sIx n 0 lo : Nat) : Int) ∧ (sliceBounds lo hi none n).2.1 = ((HT.sIx n n hi : Nat) : Int) ∧ (sliceBounds lo hi none n).2.2 = 1 := by
  refine ⟨?_, ?_, rfl⟩
  · cases lo with
    | none => simp [sliceBounds, HT.sIx]
    | some i =>
      simp only [sliceBounds, HT.sIx, Option.getD_none, show (1 : Int) > 0 by decide, if_true]
      by_cases h : i < 0
      · simp only [h, if_true] <;> omega
      · simp only [h, if_false] <;> omega
  · cases hi with
    | none => simp [sliceBounds, HT.sIx]
    | some i =>
      simp only [sliceBounds, HT.sIx, Option.getD_none, show (1 : Int) > 0 by decide, if_true]
      by_cases h : i < 0
      · simp only [h, if_true] <;> omega
      · simp only [h, if_false] <;> omega
theorem slicePick_cut (its : List Value) (lo hi : Option Int) : slicePick its.toArray lo hi none = ((its.drop (HT.sIx its.length 0 lo)).take (HT.sIx its.length its.length hi - HT.sIx its.length 0 lo)).toArray := by
  obtain ⟨h1, h2, h3⟩ := slice_bounds lo hi its.toArray.size
  unfold slicePick
  rw [h1, h2, h3]
  simp only [sliceRange_one, pick_run, List.size_toArray] <;> rfl
def rSlL (K : PySem.W.Frag) : V → Option Int → Option Int → Hp → VK → Prop := fun x lo hi H Q => ∃ a xs, x = .ref a ∧ SqL K H a xs ∧ ∀ p, H p = none → Q (.ref p) (upd H p (.lst (cutV xs lo hi)))
theorem sl_list : SlR X (rSlL X.K) := by
  intro pins s σ H x v vl vu lo hi sl Q I rx hs pl pu h
  obtain ⟨a, xs, rfl, hx, q⟩ := h
  cases rx
  obtain ⟨its, r, ht, hz⟩ := I.list hx
  have hlen := r.length
  refine ⟨"list", _, slot_list_getitem.lookup, ht.isList.typeIs, ?_⟩
  refine wpAny_getItem_list_slice ht.isList hs pl pu .none (by simp) ?_ (by rw [List.size_toArray] <;> omega)
  rw [slicePick_cut, ← hlen]
  refine ⟨.ref s.heap.objs.size, _, I.laid (t' := s.toks) (o := .lst (cutV xs lo hi)) (fun b ob q => Heap.get?_push_of_some _ q) (Nat.le_refl _) ?_, rfl, q _ (I.hok.fresh (Nat.le_refl _))⟩
  exact ⟨Nat.le_trans (cutV_length xs lo hi) hz, _, 0, (r.drop (HT.sIx xs.length 0 lo)).take (HT.sIx xs.length xs.length hi - HT.sIx xs.length 0 lo), Heap.get?_push_size _ rfl⟩

def flatV : V → Bool
  | .non => true
  | .bl _ => true
  | .int _ => true
  | .str _ => true
  | _ => false
def eqV : V → V → Bool
  | .non, .non => true
  | .bl a, .bl b => a == b
  | .bl a, .int b => (if a then 1 else 0) == b
  | .int a, .bl b => a == (if b then 1 else 0)
  | .int a, .int b => a == b
  | .str a, .str b => a == b
  | _, _ => false
theorem CallR.or {f : Value} {r r' : List V → Hp → VK → Prop} (h : CallR X f r) (h' : CallR X f r') : CallR X f (fun xs H Q => r xs H Q ∨ r' xs H Q) := by
  intro pins s σ H xs us Q I rs q
  rcases q with q | q
  · exact h pins s σ H xs us Q I rs q
  · exact h' pins s σ H xs us Q I rs q
theorem call_list_of : CallR X (.type "list") (fun xs H Q => ∃ p ys, xs = [.ref p] ∧ (SqL X.K H p ys ∨ SqT X.K H p ys) ∧ ∀ l, H l = none → Q (.ref l) (upd H l (.lst ys))) := by
  intro pins s σ H xs us Q I r h
  obtain ⟨p, ys, rfl, hq, q⟩ := h
  obtain ⟨u, rfl, rx⟩ := vals1 r
  cases rx
  have fin : ∀ (its : List Value), Vals ys its → ys.length ≤ sizeLine → ∀ (h' : Heap) (c' : Nat), (∀ b o', s.heap.get? b = some o' → h'.get? b = some o') →
      h'.get? s.heap.objs.size = some { cls := .type "list", dict := none, data := .seq its.toArray c', slots := #[] } → EP X pins σ Q (.ref s.heap.objs.size) { s with heap := h' } := fun its r' hz h' c' kp e =>
    ⟨.ref s.heap.objs.size, _, I.laid (t' := s.toks) kp (Nat.le_refl _) (show ObjOk X.prog X.w _ h' _ (.lst ys) from ⟨hz, its, c', r', e⟩), rfl, q _ (I.hok.fresh (Nat.le_refl _))⟩
  rcases hq with hq | hq
  · obtain ⟨its, r', pl, hz⟩ := I.list hq
    have hlen := r'.length
    obtain ⟨o, ho, hc, n, hd⟩ := pl.isList
    exact call_list_seq p (.inl rfl) ho hc hd (fun h' c' kp e => fin its r' hz h' c' kp e) (by simp only [List.size_toArray] <;> omega)
  · obtain ⟨its, r', pl, hz⟩ := I.tuple hq
    have hlen := r'.length
    obtain ⟨o, ho, hc, n, hd⟩ := pl
    exact call_list_seq p (.inr rfl) ho hc hd (fun h' c' kp e => fin its r' hz h' c' kp e) (by simp only [List.size_toArray] <;> omega)
def tyV (K : PySem.W.Frag) (T : String) (x : V) (H : Hp) : Prop := match x with
  | .str _ => T = "str"
  | .int _ => T = "int"
  | .ref p => (T = "list" ∧ ∃ xs, SqL K H p xs) ∨ (T = "tuple" ∧ ∃ o, K.lookup p = some o ∧ o.cls = .type "tuple" ∧ o.dict = none) ∨
      (T = "dict" ∧ ((∃ kvs, H p = some (.dK kvs)) ∨ ∃ kvs, H p = some (.dT kvs))) ∨ (T = "set" ∧ ∃ S n, H p = some (.set S n))
  | _ => False
theorem tyV_is {pins : List (Addr × Obj)} {σ : St} {H : Hp} {s : Shared} {T : String} {x : V} {v : Value} (I : Inv X pins σ H s) (r : RelV x v) (ty : tyV X.K T x H) :
    s.TypeIs v T ∧ ∀ a, v = .ref a → ∃ ob, s.heap.get? a = some ob ∧ ob.dict = none := by
  cases x with
  | str z =>
    obtain ⟨t, rfl⟩ := r
    cases (show T = "str" from ty)
    exact ⟨typeIs_str s z t, fun _ e => nomatch e⟩
  | int i =>
    obtain ⟨t, rfl⟩ := r
    cases (show T = "int" from ty)
    exact ⟨typeIs_int s i t, fun _ e => nomatch e⟩
  | ref p =>
    cases r
    rcases ty with ⟨rfl, xs, hq⟩ | ⟨rfl, o, hk, hc, hd⟩ | ⟨rfl, hk⟩ | ⟨rfl, S, n, hk⟩
    · obtain ⟨its, _, pl, _⟩ := I.list hq
      refine ⟨pl.isList.typeIs, fun a e => ?_⟩
      cases e
      obtain ⟨o, n, e, c, hd, _⟩ := pl
      exact ⟨o, e, hd⟩
    · refine ⟨⟨o, I.kIn p o hk, hc⟩, fun a e => ?_⟩
      cases e
      exact ⟨o, I.kIn _ o hk, hd⟩
    · have z : ∃ o, s.heap.get? p = some o ∧ o.ExactDict := by
        rcases hk with ⟨kvs, hk⟩ | ⟨kvs, hk⟩
        · obtain ⟨_, _, _, _, o, _, _, e, ex, _⟩ := I.hok p _ hk
          exact ⟨o, e, ex⟩
        · obtain ⟨_, _, _, _, o, _, _, e, ex, _⟩ := I.hok p _ hk
          exact ⟨o, e, ex⟩
      obtain ⟨o, e, ex⟩ := z
      refine ⟨⟨o, e, ex.1⟩, fun a e2 => ?_⟩
      cases e2
      exact ⟨o, e, ex.2.1⟩
    · obtain ⟨o, _, _, _, e, ex, _⟩ := I.hok p _ hk
      refine ⟨⟨o, e, ex.1⟩, fun a e2 => ?_⟩
      cases e2
      exact ⟨o, e, ex.2.1⟩
  | _ => exact False.elim ty
variable {o e : Expr} {es : List Expr} {to : TE} {t : TA} {name : Str} {apos cpos : Pos} {T id : String} {r : V → List V → Hp → VK → Prop}
end
end L2

namespace L2
open PySem PySem.Spec PyProof.Rows

def MtM (X : Cx) (id : String) (r : V → List V → Hp → VK → Prop) : Prop :=
  ∀ (pins : List (Addr × Obj)) (s : Shared) (σ : St) (H : Hp) (x : V) (xs : List V) (v : Value) (us : List Value) (Q : VK), Inv X pins σ H s → RelV x v → Vals xs us → r x xs H Q →
    wpAny (model X.prog X.w) X.A (call (.builtin id) (v :: us)) (EP X pins σ Q) X.xe s

theorem Vals.one : ∀ {x : V} {us : List Value}, Vals [x] us → ∃ u, us = [u] ∧ RelV x u
  | _, _, .cons r .nil => ⟨_, rfl, r⟩
theorem Vals.two : ∀ {x y : V} {us : List Value}, Vals [x, y] us → ∃ u v, us = [u, v] ∧ RelV x u ∧ RelV y v
  | _, _, _, .cons r (.cons q .nil) => ⟨_, _, rfl, r, q⟩
theorem Vals.zero : ∀ {us : List Value}, Vals [] us → us = []
  | _, .nil => rfl
theorem Vals.dropLast {xs : List V} {us : List Value} (h : Vals xs us) : Vals xs.dropLast us.dropLast := by
  induction h with
  | nil => exact .nil
  | cons r t ih =>
    cases t with
    | nil => exact .nil
    | cons q t' => exact .cons r ih
theorem Vals.eraseIdx : ∀ {xs : List V} {us : List Value} (i : Nat), Vals xs us → Vals (xs.eraseIdx i) (us.eraseIdx i)
  | _, _, _, .nil => .nil
  | _, _, 0, .cons _ t => t
  | _, _, i + 1, .cons r t => .cons r (Vals.eraseIdx i t)
theorem Vals.reverse {xs : List V} {us : List Value} (h : Vals xs us) : Vals xs.reverse us.reverse := by
  induction h with
  | nil => exact .nil
  | cons r t ih => rw [List.reverse_cons, List.reverse_cons]; exact Vals.append ih (.cons r .nil)
theorem Vals.rep {xs : List V} {us : List Value} (h : Vals xs us) : ∀ k : Nat, Vals (List.replicate k xs).flatten (List.replicate k us).flatten
  | 0 => .nil
  | k + 1 => by
    rw [List.replicate_succ, List.replicate_succ, List.flatten_cons, List.flatten_cons]
    exact Vals.append h (Vals.rep h k)
theorem foldl_rep (its : List Value) : ∀ (k : Nat) (acc : List Value),
    List.foldl (fun x1 x2 => x1 ++ x2) acc.toArray (List.replicate k its.toArray) = (acc ++ (List.replicate k its).flatten).toArray
  | 0, acc => by simp
  | k + 1, acc => by
    have e : acc.toArray ++ its.toArray = (acc ++ its).toArray := by simp
    have e2 : (acc ++ its) ++ (List.replicate k its).flatten = acc ++ (List.replicate (k + 1) its).flatten := by
      rw [List.replicate_succ, List.flatten_cons, List.append_assoc]
    rw [← e2, ← foldl_rep its k (acc ++ its), ← e, List.replicate_succ, List.foldl_cons]

section
variable {X : Cx} {pins : List (Addr × Obj)} {σ : St} {H : Hp} {s : Shared} {l b : Addr} {xs ys zs : List V}

theorem Inv.lset {its its' : List Value} {n : Nat} {f : Array Value → Array Value} {t' : Nat} (I : Inv X pins σ H s) (hH : H l = some (.lst xs))
    (e : s.heap.get? l = some { cls := .type "list", data := .seq its.toArray n }) (hf : f its.toArray = its'.toArray) (hv : Vals ys its') (hz : ys.length ≤ sizeLine) :
    Inv X pins σ (upd H l (.lst ys)) { s with heap := s.heap.update l (Obj.mapSeq f), toks := t' } := by
  have q := PySem.IsL.update e f
  rw [hf] at q
  refine I.write (x := l) (e := l) (by rw [hH]; exact trivial) (.inl rfl) (fun b' u hb hu => (Heap.get?_update_other s.heap (Obj.mapSeq f) (Ne.symm hb)).trans hu) ⟨_, q⟩ ?_
  exact ⟨hz, its', _, hv, q⟩
theorem Inv.lnew {its : List Value} {t' : Nat} (I : Inv X pins σ H s) (hv : Vals ys its) (hz : ys.length ≤ sizeLine) :
    Inv X pins σ (upd H s.heap.objs.size (.lst ys)) { s with heap := s.heap.push { cls := .type "list", data := .seq its.toArray }, toks := t' } :=
  I.laid (fun _ _ q => Heap.get?_push_of_some _ q) (Nat.le_refl _) ⟨hz, its, 0, hv, Heap.get?_push_size _ rfl⟩
theorem Inv.fresh (I : Inv X pins σ H s) : H s.heap.objs.size = none := I.hok.fresh (Nat.le_refl _)
theorem Inv.lstM (I : Inv X pins σ H s) (hH : H l = some (.lst xs)) : xs.length ≤ sizeLine ∧ ∃ (its : List Value) (n : Nat), Vals xs its ∧ xs.length = its.length ∧ s.heap.get? l = some { cls := .type "list", data := .seq its.toArray n } := by
  obtain ⟨z, its, n, r, e⟩ := I.hok l _ hH
  exact ⟨z, its, n, r, r.length, e⟩

theorem notLongL {n : Nat} (h : n ≤ sizeLine) : Builtin.List.listTooLong n = false := by
  unfold Builtin.List.listTooLong
  exact decide_eq_false (by omega)
end

section
variable {X : Cx}

def rAppend : V → List V → Hp → VK → Prop := fun x vs H Q => ∃ l xs y, x = .ref l ∧ vs = [y] ∧ H l = some (.lst xs) ∧ xs.length < sizeLine ∧ Q .non (upd H l (.lst (xs ++ [y])))
theorem mt_append : MtM X "list.append" rAppend := by
  intro pins s σ H x vs v us Q I rx rv h
  obtain ⟨l, xs, y, rfl, rfl, hH, hz, q⟩ := h
  cases rx
  obtain ⟨u, rfl, ru⟩ := rv.one
  obtain ⟨z, its, n, r, hl, e⟩ := I.lstM hH
  refine call_meets F.slot_list_append ⟨_, e, rfl⟩ F.entry_list_append (F.args_list_append_2 _ _) (PySem.list_append l its.toArray n u (by rw [List.size_toArray]; omega)) ⟨e, ?_⟩
  refine ⟨.non, _, I.lset (its' := its ++ [u]) hH e (by simp) (r.append (.cons ru .nil)) ?_, rfl, q⟩
  rw [List.length_append, List.length_singleton]
  omega

def rReverse : V → List V → Hp → VK → Prop := fun x vs H Q => ∃ l xs, x = .ref l ∧ vs = [] ∧ H l = some (.lst xs) ∧ Q .non (upd H l (.lst xs.reverse))
theorem mt_reverse : MtM X "list.reverse" rReverse := by
  intro pins s σ H x vs v us Q I rx rv h
  obtain ⟨l, xs, rfl, rfl, hH, q⟩ := h
  cases rx
  have hus := rv.zero
  subst hus
  obtain ⟨z, its, n, r, hl, e⟩ := I.lstM hH
  refine call_meets F.slot_list_reverse ⟨_, e, rfl⟩ F.entry_list_reverse (F.args_list_reverse_1 _) (AutoSeq1.list_reverse_list_0 l its.toArray n (by rw [List.size_toArray]; omega)) ⟨e, ?_⟩
  refine ⟨.non, _, I.lset (its' := its.reverse) hH e (by simp) r.reverse ?_, rfl, q⟩
  rw [List.length_reverse]
  omega

def rCat : R2 := fun x y H Q => ∃ l b xs zs, x = .ref l ∧ y = .ref b ∧ H l = some (.lst xs) ∧ H b = some (.lst zs) ∧ xs.length + zs.length ≤ sizeLine ∧ ∀ p, H p = none → Q (.ref p) (upd H p (.lst (xs ++ zs)))
theorem op_cat : OpR X (binaryOp .Add) rCat := by
  intro pins s σ H x y v u Q I rx ry h
  obtain ⟨l, b, xs, zs, rfl, rfl, hH, hB, hz, q⟩ := h
  cases rx
  cases ry
  obtain ⟨z, its, n, r, hl, e⟩ := I.lstM hH
  obtain ⟨z2, its2, n2, r2, hl2, e2⟩ := I.lstM hB
  refine PySem.P.add_list e e2 ?_ (by rw [List.size_toArray, List.size_toArray]; omega)
  have ea : its.toArray ++ its2.toArray = (its ++ its2).toArray := by simp
  rw [ea]
  exact ⟨.ref _, _, I.lnew (t' := s.toks) (r.append r2) (by rw [List.length_append]; omega), rfl, q _ I.fresh⟩
def rRep : R2 := fun x y H Q => ∃ l k xs, x = .ref l ∧ y = .int k ∧ H l = some (.lst xs) ∧ -(2 ^ 63) ≤ k ∧ k < 2 ^ 63 ∧ xs.length * k.toNat ≤ sizeLine ∧
  ∀ p, H p = none → Q (.ref p) (upd H p (.lst (List.replicate k.toNat xs).flatten))
theorem len_rep {α : Type} (xs : List α) (k : Nat) : (List.replicate k xs).flatten.length = k * xs.length := by
  induction k with
  | zero => simp
  | succ k ih => rw [List.replicate_succ, List.flatten_cons, List.length_append, ih, Nat.succ_mul, Nat.add_comm]
theorem op_rep : OpR X (binaryOp .Mult) rRep := by
  intro pins s σ H x y v u Q I rx ry h
  obtain ⟨l, k, xs, rfl, rfl, hH, h1, h2, hz, q⟩ := h
  cases rx
  obtain ⟨t, rfl⟩ := ry
  obtain ⟨z, its, n, r, hl, e⟩ := I.lstM hH
  have hlen : its.toArray.size * k.toNat ≤ sizeLine := by rw [List.size_toArray, ← hl]; exact hz
  have hcap : ¬ its.toArray.size * k.toNat > (2 ^ 63 - 1) / 8 := by
    have : (sizeLine : Nat) ≤ (2 ^ 63 - 1) / 8 := by decide
    omega
  have hfit : ¬ (!Builtin.List.listFitsIndex k) = true := by
    rw [fitsIndex_both h1 h2]
    exact Bool.false_ne_true
  have hlong : ¬ Builtin.List.listTooLong (its.toArray.size * k.toNat) = true := by
    rw [notLongL hlen]
    exact Bool.false_ne_true
  have hnew : List.foldl (fun x1 x2 => x1 ++ x2) #[] (List.replicate (if its.toArray.isEmpty = true then 0 else k.toNat) its.toArray) = (List.replicate k.toNat its).flatten.toArray := by
    have f0 : ∀ m : Nat, List.foldl (fun x1 x2 => x1 ++ x2) #[] (List.replicate m its.toArray) = (List.replicate m its).flatten.toArray := fun m => by
      have := foldl_rep its m []
      rw [List.nil_append] at this
      exact this
    rw [f0]
    cases its with
    | nil => simp
    | cons a r' => rw [if_neg (by simp)]
  refine wpAny_binaryOp_repeat_ref (T := "list") (U := "int") (by decide) ⟨_, e, rfl⟩ (fun s' => typeIs_int s' k t) noFill_list_mul F.fills_int_mul F.slot_int_rmul repeat_list F.slot_int_index.lookup
    (call_meets F.slot_int_rmul (typeIs_int s k t) F.entry_int_rmul (F.args_int_rmul_2 _ _) (int___rmul___int_list k t l its.toArray n)
      ⟨e, rfl, ⟨_, e, rfl⟩, call_meets F.slot_list_mul ⟨_, e, rfl⟩ F.entry_list_mul (F.args_list_mul_2 _ _) (AutoListH.list___mul___list_int_3 l its.toArray n k t hfit hcap hlong) ⟨e, ?_⟩⟩)
  rw [hnew]
  exact ⟨.ref _, _, I.lnew (t' := s.toks) (r.rep k.toNat) (by rw [len_rep, Nat.mul_comm]; exact hz), rfl, q _ I.fresh⟩

end

section
variable {prog : Program} {w : World} {A : Around} {E : Value → Shared → Prop} {s : Shared}
end

section
variable {X : Cx}
end
end L2

namespace L2
open PySem PySem.Spec PyProof.Rows

theorem Vals.ints : ∀ {ns : List Int} {us : List Value}, Vals (ns.map V.int) us → IntsAre us ns
  | [], us, h => by
    rw [List.map_nil] at h
    cases h
    exact IntsAre.nil
  | n :: ns, us, h => by
    rw [List.map_cons] at h
    cases h with
    | cons r t =>
      obtain ⟨k, rfl⟩ := r
      exact IntsAre.cons n k (Vals.ints t)
theorem Vals.strs : ∀ {xs : List Str} {us : List Value}, Vals (xs.map V.str) us → StrsAre us xs
  | [], us, h => by
    rw [List.map_nil] at h
    cases h
    exact StrsAre.nil
  | x :: xs, us, h => by
    rw [List.map_cons] at h
    cases h with
    | cons r t =>
      obtain ⟨k, rfl⟩ := r
      exact StrsAre.cons x k (Vals.strs t)
theorem Vals.bls : ∀ {bs : List Bool} {us : List Value}, Vals (bs.map V.bl) us → us = bs.map Value.bool
  | [], us, h => by
    rw [List.map_nil] at h
    cases h
    rfl
  | b :: bs, us, h => by
    rw [List.map_cons] at h
    cases h with
    | cons r t =>
      cases r
      rw [Vals.bls t, List.map_cons]
theorem Vals.ref1 {a : Addr} {us : List Value} (r : Vals [V.ref a] us) : us = [Value.ref a] := by
  cases r with
  | cons r t =>
    cases t
    cases r
    rfl
section
variable {prog : Program} {w : World} {A : Around} {E : Value → Shared → Prop} {s : Shared} {l : Addr} {its : List Value} {ns : List Int} {Q : Value → Shared → Prop}
theorem max_raw (hh : A.handled = none) (hl : s.heap.IsList l its.toArray) (hi : IntsAre its ns) (hne : 0 < ns.length)
    (h : ∀ h' tk M t', (∀ b o, s.heap.get? b = some o → h'.get? b = some o) → M ∈ ns → (∀ a, a ∈ ns → a ≤ M) → Q (.int M t') { s with heap := h', toks := tk }) : wpAny (model prog w) A (call (.builtin "max") [.ref l]) Q E s := by
  obtain ⟨xs, e⟩ := hi.allInts.items
  have hn : numsOf (intItems xs).toList = ns := by rw [← e]; exact hi.numsOf
  rw [nums_intItems] at hn
  subst hn
  rw [e] at hl
  have hsz : 0 < xs.size := by simpa using hne
  refine PySem.max_intList hh hl hsz fun v h' tk hv hk => ?_
  obtain ⟨t, rfl⟩ := intItems_at hv
  obtain ⟨h1, h2⟩ := argBest_gt (numAt xs) (xs.size - 1)
  refine h h' tk _ t hk ?_ fun a ha => ?_
  · rw [numAt_eq]; exact PySem.getD_mem (by rw [List.length_map, Array.length_toList]; omega)
  · obtain ⟨j, hj, rfl⟩ := mem_getD ha
    rw [List.length_map, Array.length_toList] at hj
    rw [← numAt_eq]; exact h2 j (by omega)
theorem min_raw (hh : A.handled = none) (hl : s.heap.IsList l its.toArray) (hi : IntsAre its ns) (hne : 0 < ns.length)
    (h : ∀ h' tk M t', (∀ b o, s.heap.get? b = some o → h'.get? b = some o) → M ∈ ns → (∀ a, a ∈ ns → M ≤ a) → Q (.int M t') { s with heap := h', toks := tk }) : wpAny (model prog w) A (call (.builtin "min") [.ref l]) Q E s := by
  obtain ⟨xs, e⟩ := hi.allInts.items
  have hn : numsOf (intItems xs).toList = ns := by rw [← e]; exact hi.numsOf
  rw [nums_intItems] at hn
  subst hn
  rw [e] at hl
  have hsz : 0 < xs.size := by simpa using hne
  refine PySem.min_intList hh hl hsz fun v h' tk hv hk => ?_
  obtain ⟨t, rfl⟩ := intItems_at hv
  obtain ⟨h1, h2⟩ := argBest_lt (numAt xs) (xs.size - 1)
  refine h h' tk _ t hk ?_ fun a ha => ?_
  · rw [numAt_eq]; exact PySem.getD_mem (by rw [List.length_map, Array.length_toList]; omega)
  · obtain ⟨j, hj, rfl⟩ := mem_getD ha
    rw [List.length_map, Array.length_toList] at hj
    rw [← numAt_eq]; exact h2 j (by omega)
end

section
variable {X : Cx}
def rMax (K : PySem.W.Frag) : List V → Hp → VK → Prop := fun vs H Q => ∃ (a : Addr) (ns : List Int), vs = [V.ref a] ∧ SqL K H a (ns.map V.int) ∧ 0 < ns.length ∧ ∀ m, m ∈ ns → (∀ y, y ∈ ns → y ≤ m) → Q (.int m) H
def rMin (K : PySem.W.Frag) : List V → Hp → VK → Prop := fun vs H Q => ∃ (a : Addr) (ns : List Int), vs = [V.ref a] ∧ SqL K H a (ns.map V.int) ∧ 0 < ns.length ∧ ∀ m, m ∈ ns → (∀ y, y ∈ ns → m ≤ y) → Q (.int m) H
theorem cr_max (hc : X.calm = true) : CallR X (.builtin "max") (rMax X.K) := by
  intro pins s σ H vs us Q I r h
  obtain ⟨a, ns, rfl, hs, hne, q⟩ := h
  obtain ⟨its, rv, hl, _⟩ := I.list hs
  rw [Vals.ref1 r]
  exact max_raw (I.ok.hd hc) hl.isList rv.ints hne fun h' tk m t' hk h1 h2 => ⟨.int _, H, I.kept hk, ⟨_, rfl⟩, q m h1 h2⟩
theorem cr_min (hc : X.calm = true) : CallR X (.builtin "min") (rMin X.K) := by
  intro pins s σ H vs us Q I r h
  obtain ⟨a, ns, rfl, hs, hne, q⟩ := h
  obtain ⟨its, rv, hl, _⟩ := I.list hs
  rw [Vals.ref1 r]
  exact min_raw (I.ok.hd hc) hl.isList rv.ints hne fun h' tk m t' hk h1 h2 => ⟨.int _, H, I.kept hk, ⟨_, rfl⟩, q m h1 h2⟩

end

section
variable {X : Cx}
end

section
variable {X : Cx}
end

theorem iter_any {prog : Program} {w : World} {A : Around} {E : Value → Shared → Prop} {s : Shared} {l : Addr} {items : Array Value} {Q : Value → Shared → Prop} (hl : s.heap.IsList l items)
    (h : ∀ s₂ : Shared, s₂ = { s with heap := s.heap.push { cls := .type "list_iterator", data := .fields #[.ref l, .int 0 0] } } →
      (s₂.heap.IsListIter s.heap.objs.size l 0 ∧ s₂.heap.IsList l items) → l ≠ s.heap.objs.size → Q (.ref s.heap.objs.size) s₂) : wpAny (model prog w) A (pyIter (.ref l)) Q E s := by
  have hlt : l < s.heap.objs.size := by obtain ⟨_, e, _⟩ := hl; exact Heap.lt_size e
  exact wpAny_pyIter_list hl (h _ rfl ⟨⟨_, Heap.get?_push_size _ rfl, rfl, rfl⟩, hl.push _⟩ (Nat.ne_of_lt hlt))
theorem truth_bools {prog : Program} {w : World} {A : Around} {bs : List Bool} {its : List Value} (e : its = bs.map Value.bool) :
    TruthOf prog w A (fun i v => its.toArray[i]? = some v) (fun i => bs.getD i false) := fun i v s Q E hv hq => by
  have hv' : its[i]? = some v := by simpa using hv
  rw [e, List.getElem?_map] at hv'
  obtain ⟨b, hb, rfl⟩ := Option.map_eq_some_iff.mp hv'
  have hg : bs.getD i false = b := by rw [List.getD_eq_getElem?_getD, hb] <;> rfl
  have hq' : Q (bs.getD i false) s := hq
  rw [hg] at hq'
  exact wpAny_truthy_bool hq'
theorem all_range : ∀ bs : List Bool, (List.range bs.length).all (fun i => bs.getD i false) = bs.all id
  | [] => rfl
  | b :: bs => by
    rw [List.length_cons, List.range_succ_eq_map, List.all_cons, List.all_map, List.all_cons, ← all_range bs]
    all_goals rfl
section
variable {X : Cx}
def rAll (K : PySem.W.Frag) : List V → Hp → VK → Prop := fun vs H Q => ∃ (a : Addr) (bs : List Bool), vs = [V.ref a] ∧ SqL K H a (bs.map V.bl) ∧ Q (.bl (bs.all id)) H
theorem cr_all (hc : X.calm = true) : CallR X (.builtin "all") (rAll X.K) := by
  intro pins s σ H vs us Q I r h
  obtain ⟨a, bs, rfl, hs, q⟩ := h
  obtain ⟨its, rv, hl, _⟩ := I.list hs
  rw [Vals.ref1 r]
  have hb := rv.bls
  refine call_all_walk (iter_any hl.isList fun s₂ e2 st hne => ?_)
  subst e2
  refine ⟨_, _, _, _, _, _, _, rfl, Walks.list (A := X.A.in1) (I.ok.hd hc) _ a hne its.toArray, st, truth_bools hb, fun h' tk hk => ?_⟩
  refine ⟨.bl _, H, I.kept fun b o eo => hk b o (fun hmem => ?_) (Heap.get?_push_of_some _ eo), ?_, q⟩
  · rcases List.mem_cons.mp hmem with e1 | hmem
    · exact absurd (e1 ▸ Heap.lt_size eo) (Nat.lt_irrefl _)
    · cases hmem
  · show Value.bool _ = Value.bool _
    rw [← all_range, hb, List.size_toArray, List.length_map]
end

mutual
inductive Dp (K : PySem.W.Frag) (H : Hp) : V → PyData → Prop
  | non : Dp K H .non .none
  | bl (b : Bool) : Dp K H (.bl b) (.bool b)
  | int (i : Int) : Dp K H (.int i) (.int i)
  | str (x : Str) : Dp K H (.str x) (.str x)
  | lst {a : Addr} {xs : List V} {ds : List PyData} : SqL K H a xs → DpAll K H xs ds → Dp K H (.ref a) (.list ds)
  | tup {a : Addr} {xs : List V} {ds : List PyData} : SqT K H a xs → DpAll K H xs ds → Dp K H (.ref a) (.tuple ds)
inductive DpAll (K : PySem.W.Frag) (H : Hp) : List V → List PyData → Prop
  | nil : DpAll K H [] []
  | cons {v : V} {vs : List V} {d : PyData} {ds : List PyData} : Dp K H v d → DpAll K H vs ds → DpAll K H (v :: vs) (d :: ds)
end
section
variable {X : Cx} {pins : List (Addr × Obj)} {σ : St} {H : Hp} {s : Shared}
mutual
theorem Dp.reads (I : Inv X pins σ H s) : ∀ (d : PyData) (v : V) (u : Value), Dp X.K H v d → RelV v u → ∃ as, Reads s.heap u d as
  | .none, _, _, h, r => by
    cases h
    cases r
    exact ⟨_, Reads.none⟩
  | .bool b, _, _, h, r => by
    cases h
    cases r
    exact ⟨_, Reads.bool b⟩
  | .int i, _, _, h, r => by
    cases h
    obtain ⟨t, rfl⟩ := r
    exact ⟨_, Reads.int i t⟩
  | .str x, _, _, h, r => by
    cases h
    obtain ⟨t, rfl⟩ := r
    exact ⟨_, Reads.str x t⟩
  | .list ds, _, _, h, r => by
    cases h with
    | lst hs ha =>
      cases r
      obtain ⟨its, rv, ⟨o, n, ho, hc, _, hd⟩, _⟩ := I.list hs
      obtain ⟨as, hr⟩ := Dp.readsAll I ds _ its ha rv
      exact ⟨_, Reads.list ho hc hd hr⟩
  | .tuple ds, _, _, h, r => by
    cases h with
    | tup hs ha =>
      cases r
      obtain ⟨its, rv, ⟨o, ho, hc, n, hd⟩, _⟩ := I.tuple hs
      obtain ⟨as, hr⟩ := Dp.readsAll I ds _ its ha rv
      exact ⟨_, Reads.tuple ho hc hd hr⟩
  | .dict _, _, _, h, _ => by cases h
theorem Dp.readsAll (I : Inv X pins σ H s) : ∀ (ds : List PyData) (vs : List V) (us : List Value), DpAll X.K H vs ds → Vals vs us → ∃ as, ReadsAll s.heap us ds as
  | [], _, _, h, r => by
    cases h
    cases r
    exact ⟨_, ReadsAll.nil⟩
  | d :: ds, _, _, h, r => by
    cases h with
    | cons h1 h2 =>
      cases r with
      | cons r1 r2 =>
        obtain ⟨as, q1⟩ := Dp.reads I d _ _ h1 r1
        obtain ⟨bs, q2⟩ := Dp.readsAll I ds _ _ h2 r2
        exact ⟨_, ReadsAll.cons q1 q2⟩
end
end
section
variable {X : Cx}
def rEqD (K : PySem.W.Frag) : R2 := fun x y H Q => ∃ d e, Dp K H x d ∧ Dp K H y e ∧ SeqAt.shaped d = true ∧ SeqAt.shaped e = true ∧ Q (.bl (PyData.eqv d e)) H
def rNeD (K : PySem.W.Frag) : R2 := fun x y H Q => ∃ d e, Dp K H x d ∧ Dp K H y e ∧ SeqAt.shaped d = true ∧ SeqAt.shaped e = true ∧ Q (.bl (!PyData.eqv d e)) H
theorem op_eqD (hu : X.A.units + 64 < cLine) : OpR X (compareOp .Eq) (rEqD X.K) := by
  intro pins s σ H x y v u Q I rx ry h
  obtain ⟨d, e, hd, he, sd, se, q⟩ := h
  obtain ⟨as, r1⟩ := Dp.reads I d x v hd rx
  obtain ⟨bs, r2⟩ := Dp.reads I e y u he ry
  exact SeqAt.compareEq_shaped r1 r2 sd se hu ⟨.bl _, H, I, rfl, q⟩
theorem op_neD (hu : X.A.units + 64 < cLine) : OpR X (compareOp .NotEq) (rNeD X.K) := by
  intro pins s σ H x y v u Q I rx ry h
  obtain ⟨d, e, hd, he, sd, se, q⟩ := h
  obtain ⟨as, r1⟩ := Dp.reads I d x v hd rx
  obtain ⟨bs, r2⟩ := Dp.reads I e y u he ry
  exact SeqAt.compareNe_shaped r1 r2 sd se hu ⟨.bl _, H, I, rfl, q⟩
end
end L2

namespace L2
open PySem PySem.Spec PyProof.Rows
abbrev CellAt (h : Heap) (c : Addr) (v : Option Value) : Prop := h.IsCell c v
def relS (scope sc : Scope) : Scope :=
  { scope with names := scope.names.map fun (n, k) => if (k == .free && sc.kind == .function && sc.names.lookup n == some .cell) then (n, .cell) else (n, k) }

def cloFrom (cells : List (Str × Addr)) : List (Str × NameKind) → List (Str × Addr) → List (Str × Addr)
  | [], acc => acc
  | (n, k) :: r, acc => if k == .free then cloFrom cells r ((n, (cells.lookup n).getD 0) :: acc) else cloFrom cells r acc

theorem closure_loop (env : Env) (f : Str × NameKind → List (Str × Addr) → Sem (ForInStep (List (Str × Addr))))
    (hf : ∀ n k c, f (n, k) c = if k == .free then (do let a ← cellOf env n; pure (.yield ((n, a) :: c))) else pure (.yield c)) :
    ∀ (names : List (Str × NameKind)) (acc : List (Str × Addr)), (∀ y ∈ names, y.2 = .free → ∃ c, env.cells.lookup y.1 = some c) → forIn names acc f = pure (cloFrom env.cells names acc)
  | [], acc, _ => by rw [List.forIn_nil]; rfl
  | (n, k) :: r, acc, h => by
    rw [List.forIn_cons, hf]
    have ih := fun acc => closure_loop env f hf r acc fun y hy => h y (List.mem_cons_of_mem _ hy)
    unfold cloFrom
    by_cases hk : (k == NameKind.free) = true
    · rw [if_pos hk, if_pos hk]
      obtain ⟨c, hc⟩ := h (n, k) List.mem_cons_self (by simpa using hk)
      have e : cellOf env n = pure c := by unfold cellOf; rw [hc]
      rw [e]
      have e2 : (env.cells.lookup n).getD 0 = c := by rw [hc]; rfl
      rw [e2]
      exact ih _
    · rw [if_neg hk, if_neg hk]
      exact ih _
theorem closure_ok {scope : Scope} {env : Env} (h : ∀ y ∈ scope.names, y.2 = .free → ∃ c, env.cells.lookup y.1 = some c) : closureFor scope env = pure (cloFrom env.cells scope.names []) := by
  simp only [closureFor]
  rw [closure_loop env _ (fun n k c => rfl) scope.names [] h]
  rfl

theorem mem_lookup {α : Type} : ∀ {l : List (Str × α)} {n : Str} {c : α}, (n, c) ∈ l → ∃ c', l.lookup n = some c'
  | (k, v) :: r, n, c, h => by
    rw [List.lookup_cons]
    cases hb : n == k with
    | true => exact ⟨_, rfl⟩
    | false =>
      rcases List.mem_cons.mp h with e | h
      · cases e; simp at hb
      · exact mem_lookup h

theorem cloFrom_mem {cells : List (Str × Addr)} : ∀ {names : List (Str × NameKind)} {acc : List (Str × Addr)} {n : Str} {c : Addr}, (n, c) ∈ cloFrom cells names acc → (n, c) ∈ acc ∨ ((n, .free) ∈ names ∧ c = (cells.lookup n).getD 0)
  | [], _, _, _, h => .inl h
  | (m, k) :: r, acc, n, c, h => by
    unfold cloFrom at h
    split at h
    · rename_i hk
      have hk : k = .free := by simpa using hk
      rcases cloFrom_mem h with h | ⟨h1, h2⟩
      · rcases List.mem_cons.mp h with e | h
        · cases e; exact .inr ⟨hk ▸ List.mem_cons_self, rfl⟩
        · exact .inl h
      · exact .inr ⟨List.mem_cons_of_mem _ h1, h2⟩
    · rcases cloFrom_mem h with h | ⟨h1, h2⟩
      · exact .inl h
      · exact .inr ⟨List.mem_cons_of_mem _ h1, h2⟩
theorem cloFrom_acc {cells : List (Str × Addr)} : ∀ {names : List (Str × NameKind)} {acc : List (Str × Addr)} {p : Str × Addr}, p ∈ acc → p ∈ cloFrom cells names acc
  | [], _, _, h => h
  | (m, k) :: r, acc, p, h => by
    unfold cloFrom
    split
    · exact cloFrom_acc (List.mem_cons_of_mem _ h)
    · exact cloFrom_acc h
theorem cloFrom_has {cells : List (Str × Addr)} : ∀ {names : List (Str × NameKind)} {acc : List (Str × Addr)} {n : Str}, (n, .free) ∈ names → (n, (cells.lookup n).getD 0) ∈ cloFrom cells names acc
  | (m, k) :: r, acc, n, h => by
    unfold cloFrom
    rcases List.mem_cons.mp h with e | h
    · cases e
      exact cloFrom_acc List.mem_cons_self
    · split
      · exact cloFrom_has h
      · exact cloFrom_has h

theorem cells_mem : ∀ {names : List (Str × NameKind)} {h : Heap} {acc : List (Str × Addr)} {x : Str} {c : Addr}, (x, c) ∈ cellsFrom h.objs.size names acc →
    (x, c) ∈ acc ∨ ((x, .cell) ∈ names ∧ h.objs.size ≤ c ∧ CellAt (pushCells h names) c none)
  | [], _, _, _, _, h => .inl h
  | (n, k) :: r, h, acc, x, c, hm => by
    unfold cellsFrom at hm
    unfold pushCells
    split at hm
    · rename_i hk
      rw [if_pos hk]
      have hk : k = .cell := by simpa using hk
      rw [← Heap.size_push h { cls := .type "cell", data := .cell none }] at hm
      rcases cells_mem hm with hm | ⟨h1, h2, h3⟩
      · rcases List.mem_cons.mp hm with e | hm
        · cases e
          exact .inr ⟨hk ▸ List.mem_cons_self, Nat.le_refl _, _, pushCells_keeps r _ _ _ (Heap.get?_push_size _ rfl), rfl⟩
        · exact .inl hm
      · rw [Heap.size_push] at h2
        exact .inr ⟨List.mem_cons_of_mem _ h1, Nat.le_of_succ_le h2, h3⟩
    · rename_i hk
      rw [if_neg hk]
      rcases cells_mem hm with hm | ⟨h1, h2, h3⟩
      · exact .inl hm
      · exact .inr ⟨List.mem_cons_of_mem _ h1, h2, h3⟩
theorem cells_acc : ∀ {names : List (Str × NameKind)} {n : Nat} {acc : List (Str × Addr)} {p : Str × Addr}, p ∈ acc → p ∈ cellsFrom n names acc
  | [], _, _, _, h => h
  | (m, k) :: r, n, acc, p, h => by
    unfold cellsFrom
    split
    · exact cells_acc (List.mem_cons_of_mem _ h)
    · exact cells_acc h
theorem cells_has : ∀ {names : List (Str × NameKind)} {n : Nat} {acc : List (Str × Addr)} {x : Str}, (x, .cell) ∈ names → ∃ c, (x, c) ∈ cellsFrom n names acc
  | (m, k) :: r, n, acc, x, h => by
    unfold cellsFrom
    rcases List.mem_cons.mp h with e | h
    · cases e
      exact ⟨n, cells_acc List.mem_cons_self⟩
    · split
      · exact cells_has h
      · exact cells_has h
theorem cells_inj : ∀ {names : List (Str × NameKind)} {h : Heap} {acc : List (Str × Addr)} {x y : Str} {c : Addr}, (∀ p ∈ acc, p.2 < h.objs.size) → (∀ x y c, (x, c) ∈ acc → (y, c) ∈ acc → x = y) →
    (x, c) ∈ cellsFrom h.objs.size names acc → (y, c) ∈ cellsFrom h.objs.size names acc → x = y
  | [], _, _, _, _, _, _, hi, h1, h2 => hi _ _ _ h1 h2
  | (n, k) :: r, h, acc, x, y, c, hl, hi, h1, h2 => by
    unfold cellsFrom at h1 h2
    split at h1
    · rename_i hk
      rw [if_pos hk] at h2
      rw [← Heap.size_push h { cls := .type "cell", data := .cell none }] at h1 h2
      refine cells_inj (h := h.push _) (fun p hp => ?_) (fun x y c a b => ?_) h1 h2
      · rw [Heap.size_push]
        rcases List.mem_cons.mp hp with rfl | hp
        · exact Nat.lt_succ_self _
        · exact Nat.lt_succ_of_lt (hl p hp)
      · rcases List.mem_cons.mp a with e | a <;> rcases List.mem_cons.mp b with e' | b
        · cases e; cases e'; rfl
        · cases e; exact absurd (hl _ b) (Nat.lt_irrefl _)
        · cases e'; exact absurd (hl _ a) (Nat.lt_irrefl _)
        · exact hi _ _ _ a b
    · rename_i hk
      rw [if_neg hk] at h2
      exact cells_inj hl hi h1 h2

theorem newEnv_comp {M : Model} {A : Around} {E : Value → Shared → Prop} {s : Shared} {scope : Scope} {globals : Addr} {closure : List (Str × Addr)} {qual : Str} {func : Option Addr} {code : Value} {around : Env} {builtins : Addr} {Q : Env → Shared → Prop}
    (h : Q (newEnv scope s.heap.objs.size globals (cellsFrom (s.heap.objs.size + 1) scope.names closure) qual func code (some around) builtins)
      { s with heap := pushCells (s.heap.push { cls := .type "dict", data := .dict #[] }) scope.names }) :
    wpAny M A (newFunctionEnv scope globals closure [] qual func code (some around) builtins) Q E s := by
  simp only [newFunctionEnv, Option.isSome_some, if_true]
  refine wpAny_bind (wpAny_alloc ?_)
  refine wpAny_bind (wpAny_layCells _ (fun n k c => rfl) scope.names closure _ _ ?_)
  rw [show ({ s with heap := s.heap.push { cls := .type "dict", data := .dict #[] } } : Shared).heap.objs.size = s.heap.objs.size + 1 from Heap.size_push ..]
  rw [List.forIn_nil]
  exact wpAny_bind (wpAny_pure (wpAny_pure h))

theorem lookup_relS {sc : Scope} : ∀ {names : List (Str × NameKind)} {x : Str} {k : NameKind},
    (names.map fun (n, k) => if (k == NameKind.free && sc.kind == .function && sc.names.lookup n == some .cell) then (n, NameKind.cell) else (n, k)).lookup x = some k →
    ∃ k', names.lookup x = some k' ∧ (k = k' ∨ (k' = .free ∧ k = .cell))
  | [], _, _, h => by simp at h
  | (n, k₀) :: r, x, k, h => by
    have ih := @lookup_relS sc r x k
    have h' : List.lookup x ((if (k₀ == NameKind.free && sc.kind == .function && sc.names.lookup n == some .cell) = true then (n, NameKind.cell) else (n, k₀)) :: (r.map _)) = some k := h
    cases hx : x == n with
    | true =>
      simp only [List.lookup_cons, hx]
      by_cases hc : (k₀ == NameKind.free && sc.kind == .function && sc.names.lookup n == some .cell) = true
      · rw [if_pos hc] at h'
        simp only [List.lookup_cons, hx] at h'
        cases h'
        simp only [Bool.and_eq_true, beq_iff_eq] at hc
        exact ⟨k₀, rfl, .inr ⟨hc.1.1, rfl⟩⟩
      · rw [if_neg hc] at h'
        simp only [List.lookup_cons, hx] at h'
        cases h'
        exact ⟨_, rfl, .inl rfl⟩
    | false =>
      simp only [List.lookup_cons, hx]
      by_cases hc : (k₀ == NameKind.free && sc.kind == .function && sc.names.lookup n == some .cell) = true
      · rw [if_pos hc] at h'
        simp only [List.lookup_cons, hx] at h'
        exact ih h'
      · rw [if_neg hc] at h'
        simp only [List.lookup_cons, hx] at h'
        exact ih h'
structure BlkOk (N : List Str) (sc scope : Scope) (own : List (Str × Nat)) : Prop where
  kind : scope.kind = .function
  uniq : ∀ y ∈ scope.names, scope.names.lookup y.1 = some y.2
  ix : ∀ p ∈ own, N[p.2]? = some p.1
  free : ∀ y ∈ scope.names, y.2 = .free → sc.names.lookup y.1 = some .cell ∨ sc.names.lookup y.1 = some .free
  own : ∀ y ∈ scope.names, y.2 = .local ∨ y.2 = .cell → y.1 ∈ own.map (·.1) ∨ y.1 ∉ N
def wipe (σ : St) : List Nat → St
  | [] => σ
  | v :: vs => (wipe σ vs).set v none
theorem wipe_length (σ : St) : ∀ vs : List Nat, (wipe σ vs).length = σ.length
  | [] => rfl
  | v :: vs => by unfold wipe; rw [List.length_set, wipe_length σ vs]
theorem wipe_some {σ : St} {i : Nat} {x : V} : ∀ {vs : List Nat}, (wipe σ vs)[i]? = some (some x) → σ[i]? = some (some x) ∧ i ∉ vs
  | [], h => ⟨h, by simp⟩
  | v :: vs, h => by
    unfold wipe at h
    by_cases hi : v = i
    · subst hi
      by_cases hv : v < (wipe σ vs).length
      · rw [List.getElem?_set_self hv] at h; cases h
      · rw [List.getElem?_eq_none (by simpa using hv)] at h; cases h
    · rw [List.getElem?_set_ne hi] at h
      obtain ⟨h1, h2⟩ := wipe_some h
      exact ⟨h1, by simp only [List.mem_cons, not_or]; exact ⟨fun e => hi e.symm, h2⟩⟩

abbrev Cx.blk (X : Cx) (s : Shared) (H : Hp) (scope : Scope) (cenv : Env) (fp : List Addr) : Cx := { X with s_0 := s, H_0 := H, env := cenv, outer := X.stack, ex := fp, fn := fun x => scope.names.lookup x == some .cell, pn := [], xe := fun _ _ => False }
section
variable {X : Cx} {pins : List (Addr × Obj)} {σ : St} {H : Hp} {s : Shared}
theorem block_start {scope : Scope} {own : List (Str × Nat)} {fp : List Addr} (I : Inv X pins σ H s) (ok : BlkOk X.N X.env.scope scope own) (hN : X.N.Nodup) (hfp : ∀ b ∈ fp, FpOk X pins H b ∧ b < s.heap.objs.size) :
    Inv (X.blk s H scope (compEnvC scope (cellsFrom (s.heap.objs.size + 1) scope.names (cloFrom X.env.cells scope.names [])) s.heap.objs.size X.env) fp) [] (wipe σ (own.map (·.2))) H { s with heap := pushCells (s.heap.push { cls := .type "dict", data := .dict #[] }) scope.names } := by
  have hfree : ∀ y ∈ scope.names, y.2 = .free → ∃ c, X.env.cells.lookup y.1 = some c := fun y hy e => by
    rcases ok.free y hy e with k | k
    · exact I.ok.has _ (.inl k)
    · exact I.ok.has _ (.inr k)
  generalize hcenv : compEnvC scope (cellsFrom (s.heap.objs.size + 1) scope.names (cloFrom X.env.cells scope.names [])) s.heap.objs.size X.env = cenv
  have kp : ∀ b o, s.heap.get? b = some o → (pushCells (s.heap.push { cls := .type "dict", data := .dict #[] }) scope.names).get? b = some o := fun b o e => pushCells_keeps _ _ _ _ (Heap.get?_push_of_some _ e)
  have hL : cenv.locals = s.heap.objs.size := by rw [← hcenv]; rfl
  have hcl : cenv.cells = cellsFrom (s.heap.objs.size + 1) scope.names (cloFrom X.env.cells scope.names []) := by rw [← hcenv]; rfl
  have hsc : cenv.scope = relS scope X.env.scope := by rw [← hcenv]; rfl
  rw [← Heap.size_push s.heap { cls := .type "dict", data := .dict #[] }] at hcl
  have cm : ∀ {y c}, (y, c) ∈ cloFrom X.env.cells scope.names [] → X.env.cells.lookup y = some c ∧ c < s.heap.objs.size := fun {y c} hm => by
    rcases cloFrom_mem hm with hm | ⟨h1, rfl⟩
    · cases hm
    · obtain ⟨c, hc⟩ := hfree _ h1 rfl
      rw [hc]
      obtain ⟨w, z⟩ := I.cell _ _ hc
      exact ⟨rfl, z.lt⟩
  have mem : ∀ {y c}, cenv.cells.lookup y = some c → (X.env.cells.lookup y = some c ∧ c < s.heap.objs.size) ∨ (s.heap.objs.size + 1 ≤ c ∧ CellAt (pushCells (s.heap.push { cls := .type "dict", data := .dict #[] }) scope.names) c none) := fun {y c} e => by
    rw [hcl] at e
    rcases cells_mem (PySem.mem_of_lookup e) with hm | ⟨_, h2, h3⟩
    · exact .inl (cm hm)
    · rw [Heap.size_push] at h2; exact .inr ⟨h2, h3⟩
  have look : ∀ {y}, scope.names.lookup y = some .free → ∃ c, cenv.cells.lookup y = some c ∧ X.env.cells.lookup y = some c := fun {y} hl => by
    have hy : (y, NameKind.free) ∈ scope.names := PySem.mem_of_lookup hl
    obtain ⟨c', e'⟩ := mem_lookup (cells_acc (names := scope.names) (n := (s.heap.push { cls := .type "dict", data := .dict #[] }).objs.size) (cloFrom_has (cells := X.env.cells) (acc := []) hy))
    rw [← hcl] at e'
    refine ⟨c', e', ?_⟩
    rw [hcl] at e'
    rcases cells_mem (PySem.mem_of_lookup e') with hm | ⟨h1, _, _⟩
    · exact (cm hm).1
    · have := ok.uniq _ h1
      rw [hl] at this; cases this
  have okB : (X.blk s H scope cenv fp).Ok := by
    refine ⟨I.ok.mod, by show cenv.scope.kind = _; rw [hsc]; exact ok.kind, by show cenv.globals = _; rw [← hcenv]; exact I.ok.glob, by show cenv.builtins = _; rw [← hcenv]; exact I.ok.blt, by show s.heap.objs.size ≤ cenv.locals; rw [hL]; exact Nat.le_refl _,
      fun y z c e1 e2 => ?_, fun y hy => ?_, fun y c z e => ?_, I.ok.hd, I.ok.frames, .inl rfl, fun b hb => ⟨?_, fun y c e z => ?_⟩, I.bs, Nat.le_trans I.ok.bsz I.sz, fun b o e hb => ?_, fun b hb z => ?_, I.stack, I.stkFree⟩
    · have e1 : cenv.cells.lookup y = some c := e1
      have e2 : cenv.cells.lookup z = some c := e2
      rw [hcl] at e1 e2
      refine cells_inj (fun p hp => ?_) (fun y z c a b => I.ok.inj y z c (cm a).1 (cm b).1) (PySem.mem_of_lookup e1) (PySem.mem_of_lookup e2)
      rw [Heap.size_push]
      exact Nat.lt_succ_of_lt (cm (y := p.1) (c := p.2) hp).2
    · show ∃ c, cenv.cells.lookup y = some c
      have key : ∀ k, cenv.kindOf y = some k → (k = .cell ∨ k = .free) → ∃ c, cenv.cells.lookup y = some c := fun k hk hk' => by
        unfold Env.kindOf at hk
        rw [hsc] at hk
        obtain ⟨k', e, r⟩ := lookup_relS hk
        have : k' = .cell ∨ k' = .free := by
          rcases r with rfl | ⟨rfl, _⟩
          · exact hk'
          · exact .inr rfl
        rcases this with rfl | rfl
        · obtain ⟨c, hm⟩ := cells_has (n := (s.heap.push { cls := .type "dict", data := .dict #[] }).objs.size) (acc := cloFrom X.env.cells scope.names []) (PySem.mem_of_lookup e)
          obtain ⟨c', e'⟩ := mem_lookup hm
          exact ⟨c', by rw [hcl]; exact e'⟩
        · obtain ⟨c, h1, _⟩ := look e
          exact ⟨c, h1⟩
      rcases hy with hy | hy
      · exact key _ hy (.inl rfl)
      · exact key _ hy (.inr rfl)
    · have z : (scope.names.lookup y == some NameKind.cell) = true := z
      have z : scope.names.lookup y = some .cell := by simpa using z
      have e : cenv.cells.lookup y = some c := e
      rw [hcl] at e
      rcases cells_mem (PySem.mem_of_lookup e) with hm | ⟨_, h2, _⟩
      · rcases cloFrom_mem hm with hm | ⟨h1, _⟩
        · cases hm
        · have q := ok.uniq _ h1
          rw [z] at q; cases q
      · rw [Heap.size_push] at h2
        exact Nat.le_of_succ_le h2
    · show b ≠ cenv.locals
      rw [hL]; exact Nat.ne_of_lt (hfp b hb).2
    · have e : cenv.cells.lookup y = some c := e
      rcases mem e with ⟨h1, _⟩ | ⟨h1, _⟩
      · exact (hfp b hb).1.2.2.2.2.1 y c h1 z
      · have h2 : s.heap.objs.size + 1 ≤ b := by rw [← z]; exact h1
        exact absurd (Nat.lt_of_lt_of_le (hfp b hb).2 (Nat.le_of_succ_le h2)) (Nat.lt_irrefl _)
    · rcases (hfp b hb).1.2.2.2.1 with z | z
      · exact I.ok.noex b o e z
      · exact absurd (Nat.lt_of_lt_of_le (Heap.lt_size e) (Nat.le_trans I.ok.bsz z)) (Nat.lt_irrefl _)
    · rcases List.mem_cons.mp (I.stkSub b z) with z | z
      · exact (hfp b hb).1.2.1 z
      · exact (hfp b hb).1.2.2.1 z
  refine ⟨okB, rfl, I.bare, Un.kept kp, ⟨fun _ => none, ?_, fun i y av e1 e2 e3 => ?_⟩, fun y c e => ?_, ?_, fun y c e => ?_, fun p hp => ?_, I.hok.kept kp, by rw [wipe_length]; exact I.len⟩
  · show Heap.Ns _ cenv.locals _
    rw [hL]
    exact Heap.Ns.keeps (Heap.Ns.new ..) fun b o e => pushCells_keeps _ _ _ _ e
  · obtain ⟨e2, hne⟩ := wipe_some e2
    have hfr : scope.names.lookup y = some .free ∧ (cenv.kindOf y = some .cell ∨ cenv.kindOf y = some .free) := by
      have key : ∀ k, cenv.scope.names.lookup y = some k → k = .local ∨ k = .cell ∨ k = .free → scope.names.lookup y = some .free ∧ (cenv.kindOf y = some .cell ∨ cenv.kindOf y = some .free) := fun k hk hk' => by
        have hk0 := hk
        rw [hsc] at hk
        obtain ⟨k', e, r⟩ := lookup_relS hk
        have no : ¬ (k' = .local ∨ k' = .cell) := fun hh => by
          rcases ok.own _ (PySem.mem_of_lookup e) hh with e' | e'
          · obtain ⟨p, hp, hpy⟩ := List.mem_map.mp e'
            have e3 := ok.ix p hp
            have : p.1 = y := hpy
            rw [this] at e3
            exact hne (List.mem_map.mpr ⟨p, hp, nodup_ix hN e3 e1⟩)
          · exact e' (List.mem_of_getElem? e1)
        rcases r with rfl | ⟨rfl, rfl⟩
        · rcases hk' with rfl | rfl | rfl
          · exact absurd (.inl rfl) no
          · exact absurd (.inr rfl) no
          · exact ⟨e, .inr hk0⟩
        · exact ⟨e, .inl hk0⟩
      have e3 : Vis cenv.scope y := e3
      rcases e3 with e3 | e3 | e3
      · exact key _ e3 (.inl rfl)
      · exact key _ e3 (.inr (.inl rfl))
      · exact key _ e3 (.inr (.inr rfl))
    obtain ⟨m, hn, hl⟩ := I.loc
    have hvis : Vis X.env.scope y := (ok.free _ (PySem.mem_of_lookup hfr.1) rfl).elim (fun k => .inr (.inl k)) (fun k => .inr (.inr k))
    obtain ⟨w, r, q⟩ := hl i y av e1 e2 hvis
    refine ⟨w, r, .inr ⟨hfr.2, ?_⟩⟩
    obtain ⟨c, h1, h2⟩ := look hfr.1
    rcases q with ⟨k, _⟩ | ⟨_, c', e', z⟩
    · have k : X.env.scope.names.lookup y = some .local := k
      rcases ok.free _ (PySem.mem_of_lookup hfr.1) rfl with k' | k' <;> rw [show X.env.scope.names.lookup y = _ from k'] at k <;> cases k
    · rw [h2] at e'; cases e'
      exact ⟨c, h1, z.keeps kp⟩
  · have e : cenv.cells.lookup y = some c := e
    rcases mem e with ⟨h1, _⟩ | ⟨_, z⟩
    · obtain ⟨w, z⟩ := I.cell y c h1
      exact ⟨w, z.keeps kp⟩
    · exact ⟨_, z⟩
  · show H cenv.locals = none
    rw [hL]; exact I.hok.fresh (Nat.le_refl _)
  · have e : cenv.cells.lookup y = some c := e
    rcases mem e with ⟨h1, _⟩ | ⟨h1, _⟩
    · exact I.freeC y c h1
    · exact I.hok.fresh (Nat.le_of_succ_le h1)
  · exact absurd (show p ∈ ([] : List (Addr × Obj)) ++ [] from hp) (by simp)

theorem app_ok {E : Value → Shared → Prop} {D : Addr} {xs : List V} {y : V} {v : Value} {Q : Value → Shared → Prop} (I : Inv X pins σ H s) (hD : H D = some (.lst xs)) (hz : xs.length < sizeLine) (r : RelV y v)
    (h : ∀ s', Inv X pins σ (upd H D (.lst (xs ++ [y]))) s' → Q .none s') : wpAny (model X.prog X.w) X.A (call (.builtin "list.append") [.ref D, v]) Q E s := by
  obtain ⟨hz', its, n, ri, e⟩ := I.hok D _ hD
  have hl := ri.length
  refine append_at (hsz := by rw [List.size_toArray]; omega) e fun h' sb ho' => ?_
  refine h { s with heap := h' } (I.write (t' := s.toks) (by rw [hD]; trivial) (.inl rfl) (fun b u hb q => (sb.2 b hb).trans q) ⟨_, ho'⟩ ⟨by rw [List.length_append]; exact hz, its ++ [v], n + 1, ri.append (.cons r .nil), ?_⟩)
  rw [ho']
  simp

def PTs (X : Cx) (ifs : List Expr) (t : TT) : Prop :=
  ∀ (pins : List (Addr × Obj)) (s : Shared) (σ : St) (H : Hp) (Q : Bool → Hp → Prop), Inv X pins σ H s → t σ H Q →
    wpAny (model X.prog X.w) X.A (forIn ifs true fun c r => if r = true then do let ok ← isTrue c X.env (eval c X.env); pure (ForInStep.yield ok) else pure (ForInStep.yield r)) (TP X pins σ Q) X.xe s
def tYes : TT := fun _ H Q => Q true H
theorem pts_nil : PTs X [] tYes := fun _ _ _ H _ I h => wpAny_tests_nil ⟨H, I, h⟩
end

theorem thnF {α : Type} {t : Sem α} {Q Q' : α → Shared → Prop} {M : Model} {A : Around} {E : Value → Shared → Prop} {s : Shared} (h : wpAny M A t Q (fun _ _ => False) s) (hQ : ∀ a s, Q a s → Q' a s) : wpAny M A t Q' E s := wpAny_mono h hQ fun _ _ z => False.elim z

theorem compLoop_any {prog : Program} {w : World} {A : Around} {R : Result → Shared → Prop} {s : Shared} {elt target iter : Expr} {ifs : List Expr} {scope : Scope} {pos : Pos} {it acc : Value} {env : Env} (I : Nat → Shared → Prop)
    (turn : ∀ n s, I n s → wpAny (model prog w) A (pyNext it) (fun r s₁ => match r with
      | none => R (.ok .next) s₁
      | some v => wpAny (model prog w) A (letOwnedTupleGo target it v) (fun _ s₁' => wpAny (model prog w) A (assign target env v) (fun _ s₂ =>
          wpAny (model prog w) A (forIn ifs true fun c r => if r = true then do let ok ← isTrue c env (eval c env); pure (ForInStep.yield ok) else pure (ForInStep.yield r)) (fun ok s₃ =>
            if ok = true then wpAny (model prog w) A (eval elt env) (fun x s₄ =>
              wpAny (model prog w) A (call (.builtin "list.append") [acc, x]) (fun _ s₅ => ∃ m, m < n ∧ I m s₅) (notedBy (model prog w) A env fun e s' => R (.error e) s') s₄) (notedBy (model prog w) A env fun e s' => R (.error e) s') s₃
            else ∃ m, m < n ∧ I m s₃) (notedBy (model prog w) A env fun e s' => R (.error e) s') s₂) (notedBy (model prog w) A env fun e s' => R (.error e) s') s₁') (notedBy (model prog w) A env fun e s' => R (.error e) s') s₁) (notedBy (model prog w) A env fun e s' => R (.error e) s') s)
    (n : Nat) (h : I n s) :
    codeAny (model prog w) A (.compLoop (.ListComp elt [⟨target, iter, ifs, 0⟩] scope pos) 0 it acc env) R s := by
  refine codeAny_loop rfl I (fun n s hI => ?_) n h
  show wpAny _ A ((compTurn (.ListComp elt [⟨target, iter, ifs, 0⟩] scope pos) 0 it acc env).onRaise (fun x => do noteFrame x env; theTreesLotGoes x)) _ _ s
  refine wpAny_noted ?_
  rw [compTurn_list]
  refine wpAny_bind (wpAny_standAt (wpAny_bind (wpAny_mono (turn n s hI) (fun r s₁ h₁ => ?_) fun _ _ h' => h')))
  cases r with
  | none => exact wpAny_pure h₁
  | some v =>
    refine wpAny_bind (wpAny_mono h₁ (fun _ s₁' h₁' => ?_) fun _ _ h' => h')
    refine wpAny_bind (wpAny_mono h₁' (fun _ s₂ h₂ => wpAny_bind (wpAny_mono h₂ (fun ok s₃ h₃ => ?_) fun _ _ h' => h')) fun _ _ h' => h')
    cases ok with
    | false => exact wpAny_pure ⟨rfl, h₃⟩
    | true =>
      exact wpAny_bind (wpAny_bind (wpAny_mono h₃ (fun x s₄ h₄ => wpAny_bind (wpAny_mono h₄ (fun _ s₅ h₅ => wpAny_pure (wpAny_pure ⟨rfl, h₅⟩)) fun _ _ h' => h')) fun _ _ h' => h'))

section
variable {X : Cx}
def tLc (wi : TI) (g : TG) (tt : TT) (te : TE) (vs : List Nat) : TE := fun σ H Q => wi σ H fun J H1 => ∀ D, H1 D = none → ∃ W : Nat → Nat → Hp → Prop, (∃ m, W 0 m (upd H1 D (.lst []))) ∧ ∀ i m H, W i m H →
  (J.stop i H ∧ Q (.ref D) H) ∨ (J.go i H ∧ ∃ Nx : Hp → Prop, (∀ H', Nx H' → ∃ m', m' < m ∧ W (i + 1) m' H') ∧ ∀ x H', J.yld i H x H' → g x (wipe σ vs) H' fun σ2 H2 => wipe σ2 vs = wipe σ vs ∧ tt σ2 H2 fun b H3 =>
    if b = true then te σ2 H3 fun y H4 => ∃ acc, H4 D = some (.lst acc) ∧ acc.length < sizeLine ∧ Nx (upd H4 D (.lst (acc ++ [y]))) else Nx H3)
theorem lc_core {pins : List (Addr × Obj)} {s : Shared} {σ : St} {H : Hp} {Q : VK} {elt tg iter : Expr} {ifs : List Expr} {scope : Scope} {own : List (Str × Nat)} {pos pos' : Pos} {wi : TI} {g : TG} {tt : TT} {te : TE} {use : Option (Value → Sem Unit)} {Qf : Value → Shared → Prop}
    (hc : X.calm = true) (hN : X.N.Nodup) (I : Inv X pins σ H s) (hi : PI X tg iter wi) (ok : BlkOk X.N X.env.scope scope own)
    (hg : ∀ (s : Shared) (H : Hp) (C : Addr) (cl : List (Str × Addr)) (fp : List Addr), PG (X.blk s H scope (compEnvC scope cl C X.env) fp) tg g) (ht : ∀ (s : Shared) (H : Hp) (C : Addr) (cl : List (Str × Addr)) (fp : List Addr), PTs (X.blk s H scope (compEnvC scope cl C X.env) fp) ifs tt)
    (he : ∀ (s : Shared) (H : Hp) (C : Addr) (cl : List (Str × Addr)) (fp : List Addr), PE (X.blk s H scope (compEnvC scope cl C X.env) fp) elt te) (hs : ∀ x, foldedSetIterable iter X.env x = pure x)
    (h : tLc wi g tt te (own.map (·.2)) σ H Q)
    (hRR : ∀ D C s' m H', Inv X pins σ H' s' → Q (.ref D) H' → s'.heap.Ns C m → FpOk X pins H' C → compPost (model X.prog X.w) X.A X.xe use Qf (.ref D) C (.ok .next) s') :
    wpAny (model X.prog X.w) X.A (comprehension (.ListComp elt [⟨tg, iter, ifs, 0⟩] scope pos) scope X.env pos' (newList []) false (eval iter X.env) use) Qf X.xe s := by
  have hfree : ∀ y ∈ scope.names, y.2 = .free → ∃ c, X.env.cells.lookup y.1 = some c := fun y hy e => by
    rcases ok.free y hy e with k | k
    · exact I.ok.has _ (.inl k)
    · exact I.ok.has _ (.inr k)
  refine wpAny_comprehension_free (use := use) rfl hs (closure_ok hfree) ok.kind (fun y hy e => by rw [ok.uniq y hy, e])
    (thn (hi pins s σ H _ I h) fun xv s1 hx => thn hx fun itv s2 h2 => ?_)
  obtain ⟨it, fp, tn, J, H2, e, I2, T, st2, f2, q⟩ := h2
  subst e
  refine wpAny_newObj_type (newEnv_comp ?_) (by show 0 ≤ sizeLine; decide)
  generalize hD : s2.heap.objs.size = D
  have hDn : H2 D = none := I2.hok.fresh (Nat.le_of_eq hD)
  obtain ⟨W, ⟨m0, w0⟩, turn⟩ := q D hDn
  -- the new list
  generalize hs3 : ({ s2 with heap := s2.heap.push { cls := .type "list", data := .seq ([] : List Value).toArray } } : Shared) = s3
  have I3 : Inv X pins σ (upd H2 D (.lst [])) s3 := by
    rw [← hs3]
    refine I2.laid (t' := s2.toks) (fun b o e => Heap.get?_push_of_some _ e) (Nat.le_of_eq hD) ⟨Nat.zero_le _, [], 0, .nil, ?_⟩
    rw [← hD]
    exact Heap.get?_push_size _ rfl
  have h3 : s3.heap = s2.heap.push { cls := .type "list", data := .seq ([] : List Value).toArray } := by rw [← hs3]
  have sz : ∀ b ∈ fp, b < s2.heap.objs.size := fun b hb => by
    obtain ⟨o, e, _⟩ := T.obj _ _ st2 b hb
    exact Heap.lt_size e
  have f3 : ∀ b ∈ fp, FpOk X pins (upd H2 D (.lst [])) b ∧ b < s3.heap.objs.size := fun b hb => by
    have hlt := sz b hb
    refine ⟨⟨?_, (f2 b hb).2⟩, by rw [h3, Heap.size_push]; exact Nat.lt_succ_of_lt hlt⟩
    rw [upd_ne (by rw [← hD]; exact Nat.ne_of_lt hlt)]
    exact (f2 b hb).1
  have st3 : tn 0 s3.heap := T.keep _ _ _ st2 fun b _ o e => by rw [h3]; exact Heap.get?_push_of_some _ e
  have I4 := block_start I3 ok hN f3
  have pg := hg s3 (upd H2 D (.lst [])) s3.heap.objs.size (cellsFrom (s3.heap.objs.size + 1) scope.names (cloFrom X.env.cells scope.names [])) fp
  have pt := ht s3 (upd H2 D (.lst [])) s3.heap.objs.size (cellsFrom (s3.heap.objs.size + 1) scope.names (cloFrom X.env.cells scope.names [])) fp
  have pe := he s3 (upd H2 D (.lst [])) s3.heap.objs.size (cellsFrom (s3.heap.objs.size + 1) scope.names (cloFrom X.env.cells scope.names [])) fp
  show codeAny _ _ (.compStart (.ListComp elt [⟨tg, iter, ifs, 0⟩] scope pos) 0 (.ref it) (.ref D) (compEnvC scope (cellsFrom (s3.heap.objs.size + 1) scope.names (cloFrom X.env.cells scope.names [])) s3.heap.objs.size X.env)) (compPost (model X.prog X.w) X.A X.xe use Qf (.ref D) s3.heap.objs.size) { s3 with heap := pushCells (s3.heap.push { cls := .type "dict", data := .dict #[] }) scope.names }
  have nfp : ∀ b ∈ fp, (upd H2 D (.lst [])) b = none := fun b hb => (f3 b hb).1.1
  generalize hce : compEnvC scope (cellsFrom (s3.heap.objs.size + 1) scope.names (cloFrom X.env.cells scope.names [])) s3.heap.objs.size X.env = ce at I4 pg pt pe ⊢
  have cL : ce.locals = s3.heap.objs.size := by subst hce; rfl
  generalize hH3 : upd H2 D (.lst []) = H3 at I3 I4 pg pt pe w0 nfp f3
  generalize hs4 : ({ s3 with heap := pushCells (s3.heap.push { cls := .type "dict", data := .dict #[] }) scope.names } : Shared) = s4 at I4 ⊢
  have st4 : tn 0 s4.heap := T.keep _ _ _ st3 fun b _ o e => by rw [← hs4]; exact pushCells_keeps _ _ _ _ (Heap.get?_push_of_some _ e)
  have stat : ∀ {σ' : St} {H' : Hp} {s' : Shared}, Inv (X.blk s3 H3 scope ce fp) [] σ' H' s' → (∀ b ∈ fp, H' b = none) → ∀ b ∈ fp, FpOk (X.blk s3 H3 scope ce fp) [] H' b := fun {σ' H' s'} I' hn b hb =>
    ⟨hn b hb, (I'.ok.exf b hb).1, I'.ok.exfs b hb, .inl hb, fun x c e => (I'.ok.exf b hb).2 x c e, fun p hp => absurd (show p ∈ ([] : List (Addr × Obj)) ++ [] from hp) (by simp)⟩
  have loop : codeAny (model X.prog X.w) X.A (.compLoop (.ListComp elt [⟨tg, iter, ifs, 0⟩] scope pos) 0 (.ref it) (.ref D) ce) (compPost (model X.prog X.w) X.A X.xe use Qf (.ref D) s3.heap.objs.size) s4 := by
    refine compLoop_any (fun n s' => ∃ i H', Inv (X.blk s3 H3 scope ce fp) [] (wipe σ (own.map (·.2))) H' s' ∧ tn i s'.heap ∧ (∀ b ∈ fp, H' b = none) ∧ W i n H') ?_ m0 ⟨0, H3, I4, st4, nfp, w0⟩
    rintro n s5 ⟨i, H5, I5, st5, n5, w5⟩
    rcases turn i n H5 w5 with ⟨stop, qq⟩ | ⟨go, Nx, hNx, step⟩
    · have td := T.done (X.blk s3 H3 scope ce fp) rfl rfl rfl hc i [] s5 _ H5 (fun _ _ => False) I5 (stat I5 n5) st5 stop
      refine thnF td fun r s6 ⟨hr, I6⟩ => ?_
      subst hr
      -- back in the def's context
      have I7 : Inv X pins σ H5 s6 := I3.call' (ch := fp) I6.os I6.base I6.hok I6.bare fun b hb => ⟨(f3 b hb).1.2.2.2.1, (f3 b hb).1.2.1, (f3 b hb).1.2.2.2.2.1, (f3 b hb).1.2.2.2.2.2⟩
      have nC : H5 s3.heap.objs.size = none := by
        have z : H5 ce.locals = none := I6.free
        rw [cL] at z
        exact z
      obtain ⟨m, hn, _⟩ := I6.loc
      have hn : s6.heap.Ns ce.locals m := hn
      rw [cL] at hn
      exact hRR D s3.heap.objs.size s6 m H5 I7 qq hn (I3.fpOk (Nat.le_refl _) nC)
    · have ti := T.item (X.blk s3 H3 scope ce fp) rfl rfl rfl hc i [] s5 _ H5 (fun _ _ => False) I5 (stat I5 n5) st5 go
      refine thnF ti fun r s6 ⟨u, hr, h6⟩ => ?_
      subst hr
      refine thnF h6 fun _ s7 ⟨x, H7, I7, r7, y7, st7, n7⟩ => ?_
      have I7' := I7.pinned (stat I7 n7) (T.obj _ _ st7)
      refine thnF (pg _ s7 _ H7 x u _ I7' r7 (step x H7 y7)) fun _ s8 ⟨σ8, H8, I8, hw8, q8⟩ => ?_
      refine thnF (pt _ s8 σ8 H8 _ I8 q8) fun b s9 ⟨H9, I9, q9⟩ => ?_
      -- the turn's end
      have fin : ∀ {s' : Shared} {H' : Hp}, Inv (X.blk s3 H3 scope ce fp) ([] ++ pinsAt fp s7.heap) σ8 H' s' → Nx H' → ∃ m, m < n ∧ ∃ i H', Inv (X.blk s3 H3 scope ce fp) [] (wipe σ (own.map (·.2))) H' s' ∧ tn i s'.heap ∧ (∀ b ∈ fp, H' b = none) ∧ W i m H' := fun {s' H'} I' nx => by
        obtain ⟨m', hm, w'⟩ := hNx H' nx
        have pin' : ∀ b ∈ fp, ∀ o, s7.heap.get? b = some o → s'.heap.get? b = some o ∧ H' b = none := fun b hb o e =>
          let z := I'.pin (b, o) (List.mem_append_right _ (List.mem_append_right _ (mem_pinsAt hb e)))
          ⟨z.1, z.2.1⟩
        have hl : (wipe σ (own.map (·.2))).length = σ8.length := by rw [← hw8, wipe_length]
        refine ⟨m', hm, i + 1, H', (I'.unpinned (pins := [])).weak hl (fun j v e => ?_), T.keep _ _ _ st7 fun b hb o e => (pin' b hb o e).1, fun b hb => ?_, w'⟩
        · rw [← hw8] at e
          exact (wipe_some e).1
        · obtain ⟨o, e, _⟩ := T.obj _ _ st7 b hb
          exact (pin' b hb o e).2
      cases b with
      | false =>
        simp only [Bool.false_eq_true, if_false] at q9 ⊢
        exact fin I9 q9
      | true =>
        simp only [if_true] at q9 ⊢
        refine thnF (pe _ s9 σ8 H9 _ I9 q9) fun z s10 ⟨yv, H10, I10, r10, acc, hD10, hz10, nx⟩ => ?_
        exact app_ok (X := X.blk s3 H3 scope ce fp) I10 hD10 hz10 r10 fun s11 I11 => fin I11 nx
  exact codeAny_compStart_list loop (T.self X.A 0 _ _ _ st4 loop)
theorem pe_lc {elt tg iter : Expr} {ifs : List Expr} {scope : Scope} {own : List (Str × Nat)} {pos : Pos} {wi : TI} {g : TG} {tt : TT} {te : TE} (hc : X.calm = true) (hN : X.N.Nodup) (hi : PI X tg iter wi) (ok : BlkOk X.N X.env.scope scope own)
    (hg : ∀ (s : Shared) (H : Hp) (C : Addr) (cl : List (Str × Addr)) (fp : List Addr), PG (X.blk s H scope (compEnvC scope cl C X.env) fp) tg g) (ht : ∀ (s : Shared) (H : Hp) (C : Addr) (cl : List (Str × Addr)) (fp : List Addr), PTs (X.blk s H scope (compEnvC scope cl C X.env) fp) ifs tt)
    (he : ∀ (s : Shared) (H : Hp) (C : Addr) (cl : List (Str × Addr)) (fp : List Addr), PE (X.blk s H scope (compEnvC scope cl C X.env) fp) elt te) (hs : ∀ x, foldedSetIterable iter X.env x = pure x := by intro _; rfl) :
    PE X (.ListComp elt [⟨tg, iter, ifs, 0⟩] scope pos) (tLc wi g tt te (own.map (·.2))) := by
  intro pins s σ H Q I h
  rw [eval_ListComp]
  refine lc_core hc hN I hi ok hg ht he hs h fun D C s' m H' I' q hn f => ⟨m, hn, fun h'' sb => ?_⟩
  obtain ⟨f0, f1, f2, f3, f4, f5⟩ := f
  exact ⟨.ref D, H', I'.turned (t' := s'.toks) (fun b o hb e => (sb.2 b hb).trans e) f0 f1 f3 f4 f5, rfl, q⟩
theorem ps_setLc {i : Nat} {y : Str} {py : Pos} {elt tg iter : Expr} {ifs : List Expr} {scope : Scope} {own : List (Str × Nat)} {pos spos : Pos} {wi : TI} {g : TG} {tt : TT} {te : TE} (hc : X.calm = true) (hN : X.N.Nodup) (hy : X.N[i]? = some y) (hyl : X.env.scope.names.lookup y = some .local)
    (hsw : swapsWith (.ListComp elt [⟨tg, iter, ifs, 0⟩] scope pos) (some (.Name y py)) spos.line X.env = pure true) (hi : PI X tg iter wi) (ok : BlkOk X.N X.env.scope scope own)
    (hg : ∀ (s : Shared) (H : Hp) (C : Addr) (cl : List (Str × Addr)) (fp : List Addr), PG (X.blk s H scope (compEnvC scope cl C X.env) fp) tg g) (ht : ∀ (s : Shared) (H : Hp) (C : Addr) (cl : List (Str × Addr)) (fp : List Addr), PTs (X.blk s H scope (compEnvC scope cl C X.env) fp) ifs tt)
    (he : ∀ (s : Shared) (H : Hp) (C : Addr) (cl : List (Str × Addr)) (fp : List Addr), PE (X.blk s H scope (compEnvC scope cl C X.env) fp) elt te) (hs : ∀ x, foldedSetIterable iter X.env x = pure x := by intro _; rfl) :
    PS X (.Assign [.Name y py] (.ListComp elt [⟨tg, iter, ifs, 0⟩] scope pos) spos) (tAsg (tLc wi g tt te (own.map (·.2))) (gName i)) := by
  intro pins s σ H D I h
  rw [exec_Assign_Name_used _ _ _ _ hsw]
  refine wpAny_bind (wpAny_standAt (wpAny_bind ?_))
  show wpAny _ X.A (do let _ ← comprehension (.ListComp elt [⟨tg, iter, ifs, 0⟩] scope pos) scope X.env (firstIterPos [⟨tg, iter, ifs, 0⟩] pos) (newList []) false (eval iter X.env) (some (assign (.Name y py) X.env))) _ _ s
  have h : tLc wi g tt te (own.map (·.2)) σ H (fun x H1 => gName i x σ H1 D.nx) := h
  refine wpAny_bind (thn (lc_core (Qf := fun _ s' => SP X pins D .next s') hc hN I hi ok hg ht he hs h fun L C s' m H' I' q hn f => ?_) fun _ s' hq => wpAny_pure (wpAny_pure hq))
  show wpAny _ _ (assign (.Name y py) X.env (.ref L)) _ _ _
  refine wpAny_assign_Name (store_ok2 (v := V.ref L) I' hN hy (.inl hyl) rfl (fun s2 I2 ⟨a, sb, ha⟩ => ?_) (.inr hyl))
  obtain ⟨f0, f1, f2, f3, f4, f5⟩ := f
  have haC : C ≠ a := by
    rcases ha with z | z
    · rw [z]; exact f1
    · exact fun e => f4 y a z e.symm
  refine ⟨m, hn.sameBut sb haC, fun h3 sb3 => ?_⟩
  exact ⟨_, H', I2.turned (t' := s2.toks) (fun b o hb e => (sb3.2 b hb).trans e) f0 f1 f3 f4 f5, q⟩
theorem sw_true {elt : Expr} {gs : List Comprehension} {scope : Scope} {pos py : Pos} {y : Str} {l : Nat} {env : Env} (hk : env.scope.kind = .function) (hy : env.scope.names.lookup y = some .local) (hl : (py.line == pos.line) = true)
    (ha : (scope.names.any fun (n, k) => n == y && (k == .local || k == .cell)) = false) : swapsWith (.ListComp elt gs scope pos) (some (.Name y py)) l env = pure true := by
  have ky : env.kindOf y = some .local := hy
  have hb : env.blockKind = .function := by unfold Env.blockKind; rw [hk]; rfl
  unfold swapsWith
  simp only [hb, ky, ha, Expr.pos, hl]
  rfl
end

theorem lc_list {K : PySem.W.Frag} {a : Addr} {xs : List V} {g : TG} {tt : TT} {te : TE} {vs : List Nat} {σ : St} {H1 : Hp} {D : Addr} {Qd : Hp → Prop} (Pv : Nat → Hp → Prop) (h0 : Pv 0 (upd H1 D (.lst []))) (hl : ∀ i H, i ≤ xs.length → Pv i H → SqL K H a xs)
    (hs : ∀ i x H, xs[i]? = some x → Pv i H → g x (wipe σ vs) H fun σ2 H2 => wipe σ2 vs = wipe σ vs ∧ tt σ2 H2 fun b H3 =>
      if b = true then te σ2 H3 fun y H4 => ∃ acc, H4 D = some (.lst acc) ∧ acc.length < sizeLine ∧ Pv (i + 1) (upd H4 D (.lst (acc ++ [y]))) else Pv (i + 1) H3) (hd : ∀ H, Pv xs.length H → Qd H) :
    ∃ W : Nat → Nat → Hp → Prop, (∃ m, W 0 m (upd H1 D (.lst []))) ∧ ∀ i m H, W i m H →
      ((Itl K a).stop i H ∧ Qd H) ∨ ((Itl K a).go i H ∧ ∃ Nx : Hp → Prop, (∀ H', Nx H' → ∃ m', m' < m ∧ W (i + 1) m' H') ∧ ∀ x H', (Itl K a).yld i H x H' → g x (wipe σ vs) H' fun σ2 H2 => wipe σ2 vs = wipe σ vs ∧ tt σ2 H2 fun b H3 =>
        if b = true then te σ2 H3 fun y H4 => ∃ acc, H4 D = some (.lst acc) ∧ acc.length < sizeLine ∧ Nx (upd H4 D (.lst (acc ++ [y]))) else Nx H3) := by
  refine ⟨fun i m H => m = xs.length - i ∧ i ≤ xs.length ∧ Pv i H, ⟨xs.length, by simp, Nat.zero_le _, h0⟩, ?_⟩
  rintro i m H ⟨rfl, hi, p⟩
  have q := hl i H hi p
  by_cases hlt : i < xs.length
  · refine .inr ⟨⟨xs, xs[i], q, by simp [hlt]⟩, Pv (i + 1), fun H' p' => ⟨xs.length - (i + 1), by omega, rfl, hlt, p'⟩, fun x H' y => ?_⟩
    obtain ⟨e, y⟩ := y
    subst e
    exact hs i x _ (y xs q) p
  · have e : i = xs.length := by omega
    subst e
    exact .inl ⟨⟨xs, q, Nat.le_refl _⟩, hd H p⟩
def blkC (N : List Str) (sc scope : Scope) (own : List (Str × Nat)) : Bool :=
  (match scope.kind with | .function => true | _ => false) && (scope.names.all fun y => decide (scope.names.lookup y.1 = some y.2)) && (own.all fun p => decide (N[p.2]? = some p.1)) &&
    (scope.names.all fun y => match y.2 with
      | .free => (match sc.names.lookup y.1 with | some .cell => true | some .free => true | _ => false)
      | .local => decide (y.1 ∈ own.map (·.1)) || decide (y.1 ∉ N)
      | .cell => decide (y.1 ∈ own.map (·.1)) || decide (y.1 ∉ N)
      | _ => true)
theorem blkOk_by {N : List Str} {sc scope : Scope} {own : List (Str × Nat)} (h : blkC N sc scope own = true) : BlkOk N sc scope own := by
  unfold blkC at h
  simp only [Bool.and_eq_true, List.all_eq_true, decide_eq_true_eq] at h
  obtain ⟨⟨⟨h1, h2⟩, h3⟩, h4⟩ := h
  refine ⟨?_, h2, h3, fun y hy e => ?_, fun y hy e => ?_⟩
  · split at h1
    · assumption
    · cases h1
  · have q := h4 y hy
    simp only [e] at q
    split at q <;> first | exact .inl (by assumption) | exact .inr (by assumption) | cases q
  · have q := h4 y hy
    rcases e with e | e <;> (simp only [e, Bool.or_eq_true, decide_eq_true_eq] at q; exact q)
end L2

namespace L2
open PySem PySem.Spec PyProof.Rows

section
variable {prog : Program} {w : World} {A : Around} {R : Result → Shared → Prop} {s : Shared} {elt t0 i0 t1 i1 : Expr} {ifs0 ifs1 : List Expr} {scope : Scope} {pos : Pos} {it acc : Value} {env : Env}
end

section
variable {X : Cx}
end
end L2

namespace L2
open PySem PySem.Spec PyProof.Rows

section
variable {κ : Type} [DecidableEq κ]
def valV (kvs : List (κ × V)) (k : κ) : Option V := (kvs.find? fun kv => decide (kv.1 = k)).map (·.2)
def putK (kvs : List (κ × V)) (k : κ) (v : V) : List (κ × V) :=
  if (kvs.any fun kv => decide (kv.1 = k)) = true then kvs.map (fun kv => if kv.1 = k then (kv.1, v) else kv) else kvs ++ [(k, v)]
def dropK (kvs : List (κ × V)) (k : κ) : List (κ × V) := kvs.filter fun kv => decide (kv.1 ≠ k)

theorem valV_pos {p : κ × V} {r : List (κ × V)} {k : κ} (e : p.1 = k) : valV (p :: r) k = some p.2 := by simp [valV, List.find?_cons, e]
theorem valV_neg {p : κ × V} {r : List (κ × V)} {k : κ} (e : ¬ p.1 = k) : valV (p :: r) k = valV r k := by simp [valV, List.find?_cons, e]
theorem valV_any (k : κ) : ∀ kvs : List (κ × V), (kvs.any fun kv => decide (kv.1 = k)) = (valV kvs k).isSome
  | [] => rfl
  | p :: r => by
    rw [List.any_cons]
    by_cases e : p.1 = k
    · simp only [valV_pos e, decide_eq_true e, Bool.true_or, Option.isSome_some]
    · rw [valV_neg e, decide_eq_false e, Bool.false_or]; exact valV_any k r
theorem length_putK (kvs : List (κ × V)) (k : κ) (v : V) : (putK kvs k v).length ≤ kvs.length + 1 := by
  unfold putK
  split
  · rw [List.length_map]; omega
  · rw [List.length_append, List.length_cons, List.length_nil]; omega
theorem RelO.isSome_eq {o : Option V} {u : Option Value} (r : RelO o u) : o.isSome = u.isSome := by
  cases o with
  | none => cases u with
    | none => rfl
    | some _ => exact (show False from r).elim
  | some _ => cases u with
    | none => exact (show False from r).elim
    | some _ => rfl
theorem RelO.getD {o : Option V} {u : Option Value} {d : V} {d' : Value} (r : RelO o u) (rd : RelV d d') : RelV (o.getD d) (u.getD d') := by
  cases o with
  | none => cases u with
    | none => exact rd
    | some _ => exact (show False from r).elim
  | some _ => cases u with
    | none => exact (show False from r).elim
    | some _ => exact r

theorem KV.val {kvs : List (κ × V)} {vs : List (κ × Value)} (r : KV kvs vs) (k : κ) : RelO (valV kvs k) (valueAt vs k) := by
  unfold KV at r
  induction r with
  | nil => exact True.intro
  | @cons p q ps qs h t ih =>
    obtain ⟨h1, h2⟩ := h
    by_cases e : p.1 = k
    · have e' : q.1 = k := h1.symm.trans e
      have b : valueAt (q :: qs) k = some q.2 := by simp [valueAt, List.find?_cons, e']
      rw [valV_pos e, b]; exact h2
    · have e' : ¬ q.1 = k := fun z => e (h1.trans z)
      have b : valueAt (q :: qs) k = valueAt qs k := by simp [valueAt, List.find?_cons, e']
      rw [valV_neg e, b]; exact ih
theorem KV.any {kvs : List (κ × V)} {vs : List (κ × Value)} (r : KV kvs vs) (k : κ) : (kvs.any fun kv => decide (kv.1 = k)) = vs.any fun kv => decide (kv.1 = k) := by
  unfold KV at r
  induction r with
  | nil => rfl
  | cons h t ih => rw [List.any_cons, List.any_cons, ih, h.1]
theorem KV.repl {kvs : List (κ × V)} {vs : List (κ × Value)} (r : KV kvs vs) (k : κ) {y : V} {u : Value} (ry : RelV y u) :
    KV (kvs.map fun kv => if kv.1 = k then (kv.1, y) else kv) (vs.map fun kv => if kv.1 = k then (kv.1, u) else kv) := by
  unfold KV at r ⊢
  induction r with
  | nil => exact .nil
  | @cons p q ps qs h t ih =>
    rw [List.map_cons, List.map_cons]
    refine .cons ?_ ih
    obtain ⟨h1, h2⟩ := h
    by_cases e : p.1 = k
    · rw [if_pos e, if_pos (h1.symm.trans e)]; exact ⟨h1, ry⟩
    · rw [if_neg e, if_neg (fun z => e (h1.trans z))]; exact ⟨h1, h2⟩
theorem KV.put {kvs : List (κ × V)} {vs : List (κ × Value)} (r : KV kvs vs) (k : κ) {y : V} {u : Value} (ry : RelV y u) : KV (putK kvs k y) (stored vs k u) := by
  unfold putK stored
  rw [r.any k]
  by_cases e : (vs.any fun kv => decide (kv.1 = k)) = true
  · rw [if_pos e, if_pos e]; exact r.repl k ry
  · rw [if_neg e, if_neg e]; exact Paired.snoc r ⟨rfl, ry⟩
theorem KV.drop {kvs : List (κ × V)} {vs : List (κ × Value)} (r : KV kvs vs) (k : κ) : KV (dropK kvs k) (without vs k) := by
  unfold KV at r ⊢
  unfold dropK without
  induction r with
  | nil => exact .nil
  | @cons p q ps qs h t ih =>
    obtain ⟨h1, h2⟩ := h
    rw [List.filter_cons, List.filter_cons]
    by_cases e : p.1 = k
    · have a : ¬ decide (p.1 ≠ k) = true := by simp [e]
      have b : ¬ decide (q.1 ≠ k) = true := by simp [h1.symm.trans e]
      rw [if_neg a, if_neg b]; exact ih
    · have e' : ¬ q.1 = k := fun z => e (h1.trans z)
      have a : decide (p.1 ≠ k) = true := by simp [e]
      have b : decide (q.1 ≠ k) = true := by simp [e']
      rw [if_pos a, if_pos b]; exact .cons ⟨h1, h2⟩ ih
theorem KV.keys {kvs : List (κ × V)} {vs : List (κ × Value)} (r : KV kvs vs) : kvs.map (·.1) = vs.map (·.1) := by
  unfold KV at r
  induction r with
  | nil => rfl
  | cons h t ih => rw [List.map_cons, List.map_cons, ih, h.1]
theorem KV.length {kvs : List (κ × V)} {vs : List (κ × Value)} (r : KV kvs vs) : kvs.length = vs.length := Paired.length r
end


theorem kV_is {P : Program} {w : World} {k : Key} {u : Value} (r : RelV (kV k) u) : (mixKind P w).is k u = true := by
  cases k with
  | inl i => obtain ⟨t, e⟩ := (show ∃ t, u = Value.int i t from r); subst e; exact mixKind_int P w i t
  | inr x => obtain ⟨t, e⟩ := (show ∃ t, u = Value.str x t from r); subst e; exact mixKind_str P w x t
theorem items_are {P : Program} {w : World} : ∀ {ks : List Key} {us : List Value}, Vals (ks.map kV) us → ItemsAre (mixKind P w) ks us
  | [], _, r => by rw [List.map_nil] at r; cases r; exact .nil
  | k :: ks, _, r => by
    rw [List.map_cons] at r
    cases r with
    | cons h t => exact .cons (kV_is h) (items_are t)

abbrev KT (H : Hp) : List (List Key × V) → List (List Key × Addr × Value) → Prop := Paired fun p q => p.1 = q.1 ∧ H q.2.1 = some (.tup (p.1.map kV)) ∧ RelV p.2 q.2.2
theorem KT.val {H : Hp} {kvs : List (List Key × V)} {xs : List (List Key × Addr × Value)} (r : KT H kvs xs) (k : List Key) : RelO (valV kvs k) ((atKey xs k).map (·.2)) := by
  induction r with
  | nil => exact True.intro
  | @cons p q ps qs h t ih =>
    obtain ⟨h1, _, h2⟩ := h
    by_cases e : p.1 = k
    · have e' : q.1 = k := h1.symm.trans e
      have b : atKey (q :: qs) k = some q.2 := by simp [atKey, List.find?_cons, e']
      rw [valV_pos e, b]; exact h2
    · have e' : ¬ q.1 = k := fun z => e (h1.trans z)
      have b : atKey (q :: qs) k = atKey qs k := by simp [atKey, List.find?_cons, e']
      rw [valV_neg e, b]; exact ih
theorem KT.repl {H : Hp} {kvs : List (List Key × V)} {xs : List (List Key × Addr × Value)} (r : KT H kvs xs) (k : List Key) {y : V} {u : Value} (ry : RelV y u) :
    KT H (kvs.map fun kv => if kv.1 = k then (kv.1, y) else kv) (xs.map (putAt k u)) := by
  induction r with
  | nil => exact .nil
  | @cons p q ps qs h t ih =>
    rw [List.map_cons, List.map_cons]
    refine .cons ?_ ih
    obtain ⟨h1, h2, h3⟩ := h
    unfold putAt
    by_cases e : p.1 = k
    · rw [if_pos e, if_pos (h1.symm.trans e)]; exact ⟨h1, h2, ry⟩
    · rw [if_neg e, if_neg (fun z => e (h1.trans z))]; exact ⟨h1, h2, h3⟩
theorem KT.put {H : Hp} {kvs : List (List Key × V)} {xs : List (List Key × Addr × Value)} (r : KT H kvs xs) (k : List Key) {b : Addr} {y : V} {u : Value} (hb : H b = some (.tup (k.map kV))) (ry : RelV y u) :
    KT H (putK kvs k y) (storedH xs k b u) := by
  have e : (kvs.any fun kv => decide (kv.1 = k)) = (atKey xs k).isSome := by
    rw [valV_any, (r.val k).isSome_eq, Option.isSome_map]
  unfold putK storedH
  rw [e]
  by_cases q : (atKey xs k).isSome = true
  · rw [if_pos q, if_pos q]; exact r.repl k ry
  · rw [if_neg q, if_neg q]; exact Paired.snoc r ⟨rfl, hb, ry⟩
theorem KT.keeps {H H' : Hp} {kvs : List (List Key × V)} {xs : List (List Key × Addr × Value)} (r : KT H kvs xs) (ht : ∀ b ys, H b = some (.tup ys) → H' b = some (.tup ys)) : KT H' kvs xs :=
  Paired.mapP r fun _ _ z => ⟨z.1, ht _ _ z.2.1, z.2.2⟩

section
variable {P : Program} {w : World} {H : Hp} {h : Heap} {a : Addr}
theorem rd_of {u : HO} (ok : HOk P w H h) (e : Rd H a u) : ObjOk P w H h a u := e.ok ok
theorem dk_rd {kvs : List (Key × V)} (ok : HOk P w H h) (e : Rd H a (.dK kvs)) : kvs.length ≤ sizeLine ∧ (a == sysModules) = false ∧ ∃ vs, KV kvs vs ∧ h.DictOf (mixKind P w) a vs :=
  show ObjOk P w H h a (.dK kvs) from rd_of ok e
theorem dk_of {kvs : List (Key × V)} (ok : HOk P w H h) (e : H a = some (.dK kvs)) : kvs.length ≤ sizeLine ∧ (a == sysModules) = false ∧ ∃ vs, KV kvs vs ∧ h.DictOf (mixKind P w) a vs := dk_rd ok (.inl e)
theorem key_of {ks : List Key} (ok : HOk P w H h) (e : H a = some (.tup (ks.map kV))) : (tupleKind (mixKind P w)).is h ks a := by
  obtain ⟨_, its, r, o, h1, h2, n, h3⟩ := (show ObjOk P w H h a (.tup (ks.map kV)) from ok a _ e)
  exact ⟨o, its.toArray, n, h1, h2, h3, by simpa using items_are r⟩
theorem dt_rd {kvs : List (List Key × V)} (ok : HOk P w H h) (e : Rd H a (.dT kvs)) : kvs.length ≤ sizeLine ∧ (a == sysModules) = false ∧
    ∃ xs, KT H kvs xs ∧ h.DictOfH (tupleKind (mixKind P w)) a xs := by
  obtain ⟨z, y, xs, r, o, es, ep, h1, h2, h3, h4, h5⟩ := (show ObjOk P w H h a (.dT kvs) from rd_of ok e)
  refine ⟨z, y, xs, r, o, es, ep, h1, h2, h3, h4, fun x hx => ?_, h5⟩
  have all : ∀ {l : List (List Key × V)} {m : List (List Key × Addr × Value)}, KT H l m → ∀ x ∈ m, (tupleKind (mixKind P w)).is h x.1 x.2.1 := by
    intro l m q
    induction q with
    | nil => intro x hx; exact nomatch hx
    | @cons p q ps qs hq t ih =>
      intro x hx
      rcases List.mem_cons.mp hx with e | hx
      · subst e
        exact key_of ok (by rw [← hq.1]; exact hq.2.1)
      · exact ih x hx
  exact all r x hx
theorem dt_of {kvs : List (List Key × V)} (ok : HOk P w H h) (e : H a = some (.dT kvs)) : kvs.length ≤ sizeLine ∧ (a == sysModules) = false ∧
    ∃ xs, KT H kvs xs ∧ h.DictOfH (tupleKind (mixKind P w)) a xs := dt_rd ok (.inl e)
end

def DGet (H : Hp) (a : Addr) (y : V) (r : Option V) : Prop :=
  (∃ kvs k, Rd H a (.dK kvs) ∧ y = kV k ∧ r = valV kvs k) ∨ ∃ kvs k b, Rd H a (.dT kvs) ∧ y = .ref b ∧ H b = some (.tup (k.map kV)) ∧ r = valV kvs k
def DPut (H : Hp) (a : Addr) (y v : V) (H' : Hp) : Prop :=
  (∃ kvs k, H a = some (.dK kvs) ∧ y = kV k ∧ kvs.length < sizeLine ∧ H' = upd H a (.dK (putK kvs k v))) ∨
  ∃ kvs k b, H a = some (.dT kvs) ∧ y = .ref b ∧ H b = some (.tup (k.map kV)) ∧ kvs.length < sizeLine ∧ H' = upd H a (.dT (putK kvs k v))
theorem DGet.k {H : Hp} {a : Addr} {kvs : List (Key × V)} {k : Key} (e : H a = some (.dK kvs)) : DGet H a (kV k) (valV kvs k) := .inl ⟨kvs, k, .inl e, rfl, rfl⟩
theorem DGet.t {H : Hp} {a b : Addr} {kvs : List (List Key × V)} {k : List Key} (e : H a = some (.dT kvs)) (eb : H b = some (.tup (k.map kV))) : DGet H a (.ref b) (valV kvs k) := .inr ⟨kvs, k, b, .inl e, rfl, eb, rfl⟩
theorem DPut.k {H : Hp} {a : Addr} {kvs : List (Key × V)} {k : Key} {v : V} (e : H a = some (.dK kvs)) (hl : kvs.length < sizeLine) : DPut H a (kV k) v (upd H a (.dK (putK kvs k v))) := .inl ⟨kvs, k, e, rfl, hl, rfl⟩
theorem DPut.t {H : Hp} {a b : Addr} {kvs : List (List Key × V)} {k : List Key} {v : V} (e : H a = some (.dT kvs)) (eb : H b = some (.tup (k.map kV))) (hl : kvs.length < sizeLine) :
    DPut H a (.ref b) v (upd H a (.dT (putK kvs k v))) := .inr ⟨kvs, k, b, e, rfl, eb, hl, rfl⟩


section
variable {X : Cx} {pins : List (Addr × Obj)} {σ : St} {H : Hp} {s : Shared} {a : Addr} {y v : V} {u r : Value} {o : Option V} {A : Around} {E : Value → Shared → Prop}

theorem Inv.big (I : Inv X pins σ H s) : sysModules < s.heap.objs.size := by
  have h : mainGlobals < s.heap.objs.size := (I.mod.glob.keeps I.bk).lt
  exact Nat.lt_trans (by decide) h

theorem d_getItem {Q : Value → Shared → Prop} (hu : A.units + 1 < cLine) (I : Inv X pins σ H s) (g : DGet H a y (some v)) (ry : RelV y u) (h : ∀ w' s', Inv X pins σ H s' → RelV v w' → Q w' s') :
    wpAny (model X.prog X.w) A (getItem (.ref a) u) Q E s := by
  rcases g with ⟨kvs, k, e, ey, l⟩ | ⟨kvs, k, b, e, ey, eb, l⟩
  · subst ey
    obtain ⟨z, hd, vs, rel, dd⟩ := dk_rd I.hok e
    obtain ⟨w', hw, rw'⟩ := RelO.some_of (v := v) (o := valueAt vs k) (by rw [l]; exact rel.val k)
    exact wpAny_getItem_of (kV_is ry) dd.mapOf hw (h w' _ (I.tok _) rw')
  · subst ey
    cases (show u = Value.ref b from ry)
    obtain ⟨z, hd, xs, rel, dd⟩ := dt_rd I.hok e
    obtain ⟨w', hw, rw'⟩ := RelO.some_of (v := v) (o := (atKey xs k).map (·.2)) (by rw [l]; exact rel.val k)
    obtain ⟨p, hp, hp2⟩ := Option.map_eq_some_iff.mp hw
    refine wpAny_getItem_heap (tupleKind_room_in1 hu) (key_of I.hok eb) dd hp ?_
    rw [hp2]
    exact h w' _ (I.tok _) rw'
theorem d_write {h' : Heap} {t' : Nat} {ob : HO} (I : Inv X pins σ H s) (mu : Mut (H a)) (hs : Heap.SameBut a s.heap h') (he : ∃ q, h'.get? a = some q) (new : ObjOk X.prog X.w (upd H a ob) h' a ob) :
    Inv X pins σ (upd H a ob) { s with heap := h', toks := t' } :=
  I.write (x := a) (e := a) mu (.inl rfl) (fun b q hb z => (hs.2 b hb).trans z) he new
theorem dk_new {P : Program} {w : World} {H' : Hp} {h' : Heap} {kvs : List (Key × V)} {vs : List (Key × Value)} (z : kvs.length ≤ sizeLine) (hd : (a == sysModules) = false) (rel : KV kvs vs) (dd : h'.DictOf (mixKind P w) a vs) :
    ObjOk P w H' h' a (.dK kvs) := ⟨z, hd, vs, rel, dd⟩
theorem d_setItem {H' : Hp} {Q : Unit → Shared → Prop} (hu : A.units + 1 < cLine) (I : Inv X pins σ H s) (g : DPut H a y v H') (ry : RelV y u) (rv : RelV v r) (h : ∀ s', Inv X pins σ H' s' → Q () s') :
    wpAny (model X.prog X.w) A (setItem (.ref a) u r) Q E s := by
  rcases g with ⟨kvs, k, e, ey, l, eH⟩ | ⟨kvs, k, b, e, ey, eb, l, eH⟩
  · subst ey eH
    obtain ⟨z, hd, vs, rel, dd⟩ := dk_of I.hok e
    have hz : vs.length ≤ sizeLine := by rw [← rel.length]; exact z
    have hl : (putK kvs k v).length ≤ sizeLine := by have := length_putK kvs k v; omega
    refine wpAny_setItem_pairs (hsz := hz) (kV_is ry) dd fun h' dd' hs => h _ ?_
    have he : ∃ q, h'.get? a = some q := let ⟨q, _, _, hq, _⟩ := dd'; ⟨q, hq⟩
    exact d_write I (by rw [e]; exact True.intro) hs he (dk_new hl hd (rel.put k rv) dd')
  · subst ey eH
    cases (show u = Value.ref b from ry)
    obtain ⟨z, hd, xs, rel, dd⟩ := dt_of I.hok e
    have hz : xs.length ≤ sizeLine := by rw [← Paired.length rel]; exact z
    have hl : (putK kvs k v).length ≤ sizeLine := by have := length_putK kvs k v; omega
    refine wpAny_setItem_heap (hsz := hz) (tupleKind_room_in1 hu) (key_of I.hok eb) dd fun h' dd' hs => h _ ?_
    obtain ⟨q, es, ep, hq, h2, h3, h4, _, h5⟩ := dd'
    refine d_write I (by rw [e]; exact True.intro) hs ⟨q, hq⟩ ⟨hl, hd, _, (rel.put k eb rv).keeps fun c ys ec => ?_, q, es, ep, hq, h2, h3, h4, h5⟩
    rw [upd_ne (ne_of ec e (fun z => nomatch z))]
    exact ec
end

section
variable {X : Cx} {pins : List (Addr × Obj)} {σ : St} {H : Hp} {s : Shared} {a : Addr} {kvs : List (Key × V)} {k : Key} {u : Value} {A : Around} {E : Value → Shared → Prop}
theorem d_len {Q : Value → Shared → Prop} (I : Inv X pins σ H s) (e : Rd H a (.dK kvs)) (h : ∀ t s', Inv X pins σ H s' → Q (.int kvs.length t) s') : wpAny (model X.prog X.w) A (call (.builtin "len") [.ref a]) Q E s := by
  obtain ⟨z, hd, vs, rel, dd⟩ := dk_rd I.hok e
  refine call_len_dict hd dd (by rw [← rel.length]; rw [sizeLine_eq] at z; omega) ?_
  rw [← rel.length]
  exact h _ _ (I.tok _)
end


def NoSl (i : Expr) : Prop := ∀ ov iv, subscripted i false ov iv = operate [ov, iv] (getItem ov iv)
theorem subD_of {prog : Program} {w : World} {A : Around} {E : Value → Shared → Prop} {s : Shared} {env : Env} {value slice : Expr} {pos : Pos} {T id : String} {Q : Value → Shared → Prop}
    (hl : typeLookup (.type T) "__getitem__" = pure (some (.builtin id))) (hs : NoSl slice)
    (h : wpAny (model prog w) A (eval value env) (fun o s₁ => wpAny (model prog w) A (eval slice env) (fun i s₂ => s₂.TypeIs o T ∧ wpAny (model prog w) A (getItem o i) Q E s₂) E s₁) E s) :
    wpAny (model prog w) A (eval (.Subscript value slice pos) env) Q E s := by
  refine Subscript_ (wpAny_mono h (fun o s₁ h₁ => wpAny_mono h₁ (fun i s₂ h₂ => ?_) fun _ _ x => x) fun _ _ x => x)
  obtain ⟨hT, h₂⟩ := h₂
  unfold subscriptTail
  refine wpAny_bind ?_
  rw [getitemInPython_of_ne hT.not_modules]
  refine wpAny_bind (wpAny_specialOf hT hl ?_)
  have fin : wpAny (model prog w) A (subscripted slice false o i) (fun r s₃ => wpAny (model prog w) A (letTemporaryGo value o r >>= fun _ => pure r) Q E s₃) E s₂ := by
    rw [hs o i]
    exact wpAny_operating (wpAny_mono h₂ (fun r s₃ h₃ => wpAny_bind (wpAny_letTemporaryGo (wpAny_pure h₃))) fun _ _ x => x)
  first
    | exact wpAny_pure (wpAny_bind fin)
    | exact wpAny_bind (wpAny_pure (wpAny_bind fin))
    | exact wpAny_bind fin

theorem dict_typeIs {X : Cx} {pins : List (Addr × Obj)} {σ : St} {H : Hp} {s : Shared} {a : Addr} {y : V} {o : Option V} (I : Inv X pins σ H s) (g : DGet H a y o) : s.TypeIs (.ref a) "dict" := by
  rcases g with ⟨kvs, k, e, _, _⟩ | ⟨kvs, k, b, e, _, _, _⟩
  · obtain ⟨_, _, vs, _, dd⟩ := dk_rd I.hok e
    exact dd.typeIs
  · obtain ⟨_, _, xs, _, dd⟩ := dt_rd I.hok e
    exact dd.typeIs
section
variable {X : Cx} {o i e value : Expr} {pos pos' tpos : Pos} {td ty tv : TE}
end


theorem dk_empty {P : Program} {w : World} {H : Hp} (h : Heap) (hb : sysModules < h.objs.size) : ObjOk P w H (h.push { cls := .type "dict", data := .dict #[] }) h.objs.size (.dK []) :=
  ⟨Nat.zero_le _, beq_eq_false_iff_ne.mpr (Ne.symm (Nat.ne_of_lt hb)), [], .nil, Heap.DictOf.new h⟩
def tDNewT : TE := fun _ H Q => ∀ p, H p = none → Q (.ref p) (upd H p (.dT []))
section
variable {X : Cx} {pos : Pos}
end

def tPairs : List (TE × TE) → St → Hp → (List (V × V) → Hp → Prop) → Prop
  | [], _, H, Q => Q [] H
  | (tk, tv) :: r, σ, H, Q => tk σ H fun x H1 => tv σ H1 fun y H2 => tPairs r σ H2 fun ps H3 => Q ((x, y) :: ps) H3
abbrev VV : List (V × V) → List (Value × Value) → Prop := Paired fun p q => RelV p.1 q.1 ∧ RelV p.2 q.2
def PPs (X : Cx) (pos : Pos) (keys : List (Option Expr)) (values : List Expr) (trs : List (TE × TE)) : Prop :=
  ∀ (pins : List (Addr × Obj)) (s : Shared) (σ : St) (H : Hp) (Q : List (V × V) → Hp → Prop), Inv X pins σ H s → tPairs trs σ H Q →
    wpAny (model X.prog X.w) X.A (evalPairs (pairTrees keys values X.env pos)) (fun vs s' => ∃ ps H', Inv X pins σ H' s' ∧ VV ps vs ∧ Q ps H') X.xe s
theorem pps_nil {X : Cx} {pos : Pos} : PPs X pos [] [] [] := fun pins s σ H Q I h => pairTrees_nil_walk ⟨[], H, I, .nil, h⟩
theorem pps_cons {X : Cx} {pos : Pos} {k v : Expr} {ks : List (Option Expr)} {vs : List Expr} {tk tv : TE} {trs : List (TE × TE)} (hk : PE X k tk) (hv : PE X v tv) (hr : PPs X pos ks vs trs) :
    PPs X pos (some k :: ks) (v :: vs) ((tk, tv) :: trs) := fun pins s σ H Q I h =>
  pairTrees_cons_walk (thn (hk pins s σ H _ I h) fun u s1 ⟨x, H1, I1, rx, q1⟩ => thn (hv pins s1 σ H1 _ I1 q1) fun w2 s2 ⟨y, H2, I2, ry, q2⟩ =>
    thn (hr pins s2 σ H2 _ I2 q2) fun ws s3 ⟨ps, H3, I3, rel, q3⟩ => ⟨(x, y) :: ps, H3, I3, .cons ⟨rx, ry⟩ rel, q3⟩)

def mergeK (kvs more : List (Key × V)) : List (Key × V) := more.foldl (fun acc kv => putK acc kv.1 kv.2) kvs
theorem KV.merge : ∀ {more : List (Key × V)} {rs : List (Key × Value)} {kvs : List (Key × V)} {vs : List (Key × Value)}, KV more rs → KV kvs vs → KV (mergeK kvs more) (merged vs rs) := by
  intro more rs kvs vs r
  unfold KV at r
  induction r generalizing kvs vs with
  | nil => intro q; exact q
  | @cons p q ps qs h t ih =>
    intro r0
    have e : KV (putK kvs p.1 p.2) (stored vs q.1 q.2) := by
      have := r0.put p.1 h.2
      rw [← h.1]; exact this
    exact ih e
theorem length_mergeK : ∀ (more kvs : List (Key × V)), (mergeK kvs more).length ≤ kvs.length + more.length
  | [], kvs => by show kvs.length ≤ kvs.length + 0; omega
  | p :: r, kvs => by
    have h1 := length_mergeK r (putK kvs p.1 p.2)
    have h2 := length_putK kvs p.1 p.2
    show (mergeK (putK kvs p.1 p.2) r).length ≤ _
    rw [List.length_cons]; omega
theorem carries_of {P : Program} {w : World} : ∀ {kvs : List (Key × V)} {ws : List (Value × Value)}, VV (kvs.map fun kv => (kV kv.1, kv.2)) ws → ∃ rs, Carries (mixKind P w) ws rs ∧ KV kvs rs
  | [], _, r => by rw [List.map_nil] at r; cases r; exact ⟨[], True.intro, .nil⟩
  | p :: kvs, _, r => by
    rw [List.map_cons] at r
    cases r with
    | @cons a b as bs h t =>
      obtain ⟨rs, c, q⟩ := carries_of (P := P) (w := w) t
      obtain ⟨b1, b2⟩ := b
      exact ⟨(p.1, b2) :: rs, ⟨kV_is h.1, rfl, c⟩, .cons ⟨rfl, h.2⟩ q⟩
def tDisp (trs : List (TE × TE)) : TE := fun σ H Q => ∀ p, H p = none → tPairs trs σ (upd H p (.dK [])) fun ps H2 => H2 p = some (.dK []) ∧ ∃ kvs : List (Key × V), ps = kvs.map (fun kv => (kV kv.1, kv.2)) ∧ kvs.length ≤ 15 ∧ Q (.ref p) (upd H2 p (.dK (mergeK [] kvs)))
theorem pe_disp {X : Cx} {pos : Pos} {keys : List (Option Expr)} {values : List Expr} {trs : List (TE × TE)} (h : PPs X pos keys values trs) (hall : keys.all (·.isSome) = true) (hl : keys.length = values.length) (h0 : keys ≠ [])
    (h15 : keys.length ≤ 15) : PE X (.Dict keys values pos) (tDisp trs) := by
  intro pins s σ H Q I q
  have hn := I.hok.fresh (Nat.le_refl s.heap.objs.size)
  have I1 := I.laid (a := s.heap.objs.size) (o := .dK []) (h' := s.heap.push { cls := .type "dict", data := .dict #[] }) (t' := s.toks) (fun _ _ q => Heap.get?_push_of_some _ q) (Nat.le_refl _) (dk_empty s.heap I.big)
  refine wpAny_Dict_walk (knd := mixKind X.prog X.w) hall hl h0 h15 (thn (h pins _ σ _ _ I1 (q _ hn)) fun ws s2 ⟨ps, H2, I2, rel, e, kvs, ep, lk, q2⟩ => ?_)
  subst ep
  obtain ⟨rs, c, rk⟩ := carries_of (P := X.prog) (w := X.w) rel
  obtain ⟨z, hd, vs0, r0, dd⟩ := dk_of I2.hok e
  cases r0
  refine ⟨rs, c, dd, fun h' dd' hs => ⟨.ref s.heap.objs.size, _, ?_, rfl, q2⟩⟩
  have hz : (mergeK [] kvs).length ≤ sizeLine := by
    have h1 := length_mergeK kvs []
    rw [List.length_nil] at h1
    rw [sizeLine_eq]; omega
  have he : ∃ q, h'.get? s.heap.objs.size = some q := let ⟨q, _, _, hq, _⟩ := dd'; ⟨q, hq⟩
  exact d_write I2 (by rw [e]; exact True.intro) hs he (dk_new hz hd (rk.merge .nil) dd')


structure M1 (X : Cx) (o : Expr) (m : Str) (apos : Pos) (e : Expr) (cpos : Pos) : Prop where
  base : attributeBase o m X.env (eval o X.env) = eval o X.env
  few : ((backTo cpos (starEach [e] X.env)).all (fun x => !x.1) && (backToKw cpos (keywordEach [] X.env)).all (fun x => x.1.isSome)
    && decide (([e] : List Expr).length + ([] : List Keyword).length + (if ([] : List Keyword).isEmpty then 0 else 1) < 30)) = true
  line : (apos.endLine == cpos.line) = true
  trees : backTo cpos (starEach [e] X.env) = [(false, eval e X.env)]
structure M2 (X : Cx) (o : Expr) (m : Str) (apos : Pos) (e f : Expr) (cpos : Pos) : Prop where
  base : attributeBase o m X.env (eval o X.env) = eval o X.env
  few : ((backTo cpos (starEach [e, f] X.env)).all (fun x => !x.1) && (backToKw cpos (keywordEach [] X.env)).all (fun x => x.1.isSome)
    && decide (([e, f] : List Expr).length + ([] : List Keyword).length + (if ([] : List Keyword).isEmpty then 0 else 1) < 30)) = true
  line : (apos.endLine == cpos.line) = true
  trees : backTo cpos (starEach [e, f] X.env) = [(false, eval e X.env), (false, eval f X.env)]

def IsD (H : Hp) (a : Addr) : Prop := (∃ kvs, Rd H a (.dK kvs)) ∨ ∃ kvs, Rd H a (.dT kvs)
section
variable {X : Cx} {pins : List (Addr × Obj)} {σ : St} {H : Hp} {s : Shared} {a : Addr} {y d : V} {u r : Value} {o : Option V} {A : Around} {E : Value → Shared → Prop}
end

section
variable {X : Cx} {o e f : Expr} {apos cpos : Pos} {td ty tx : TE}
end

section
variable {X : Cx} {pins : List (Addr × Obj)} {σ : St} {H : Hp} {s : Shared} {a : Addr} {kvs : List (Key × V)} {A : Around} {E : Value → Shared → Prop}
end


section
variable {X : Cx} {pins : List (Addr × Obj)} {σ : St} {H : Hp} {s : Shared} {a : Addr} {y : V} {u : Value} {A : Around} {E : Value → Shared → Prop}
end
end L2

namespace L2
open PySem PySem.Spec PyProof.Rows

section
variable {prog : Program} {w : World} {A : Around} {E : Value → Shared → Prop}
end

section
variable {X : Cx}
end
end L2

namespace L2
open PySem PySem.Spec PyProof.Rows

section
variable {X : Cx} {pins : List (Addr × Obj)} {σ : St} {H : Hp} {s : Shared} {h' : Heap}
theorem Inv.turnedL {t' : Nat} {ch : List Addr} (I : Inv X pins σ H s) (k : ∀ b o, b ∉ ch → s.heap.get? b = some o → h'.get? b = some o) (hf : ∀ b ∈ ch, FpOk X pins H b) : Inv X pins σ H { s with heap := h', toks := t' } := by
  have nit : ∀ b u, H b = some u → b ∉ ch := fun b u e z => by
    have q := (hf b z).1
    rw [q] at e; cases e
  refine I.step (g' := s.gens) (d' := s.drawn) (ch := ch) (fun b hb => ⟨(hf b hb).2.2.2.1, (hf b hb).2.1, (hf b hb).2.2.2.2.1, (hf b hb).2.2.2.2.2⟩) (fun b o _ _ hc e _ => k b o hc e) (fun b o _ _ hc e _ => ⟨o.slots, k b o hc e⟩)
    (fun _ _ _ _ n => n) (fun b o hc e => ⟨o, k b o hc e⟩) (fun _ _ e => e) (fun _ _ _ e => e) (fun b ps e => ⟨#[], by rw [e]; simp⟩) (fun m hm => ?_) (fun b u e => ?_) I.bare
  · obtain ⟨o, es, ep, ho, r⟩ := hm
    exact ⟨o, es, ep, k _ o (fun z => (hf _ z).2.1 rfl) ho, r⟩
  · refine (I.hok b u e).stay (fun c v hc q => k c v ?_ q) (fun _ q => q) fun _ _ q => q
    rcases hc with z | z
    · rw [z]; exact nit b u e
    · exact nit c _ z
theorem Inv.turnedNew {t' : Nat} {ch : List Addr} {T : Addr} {ob : HO} (I : Inv X pins σ H s) (k : ∀ b o, b ∉ ch → s.heap.get? b = some o → h'.get? b = some o) (hf : ∀ b ∈ ch, FpOk X pins H b) (hT : s.heap.objs.size ≤ T)
    (new : ObjOk X.prog X.w (upd H T ob) h' T ob) : Inv X pins σ (upd H T ob) { s with heap := h', toks := t' } := by
  have hn : H T = none := I.hok.fresh hT
  have nit : ∀ b u, H b = some u → b ∉ ch := fun b u e z => by
    have q := (hf b z).1
    rw [q] at e; cases e
  refine I.step (g' := s.gens) (d' := s.drawn) (ch := ch) (fun b hb => ⟨(hf b hb).2.2.2.1, (hf b hb).2.1, (hf b hb).2.2.2.2.1, (hf b hb).2.2.2.2.2⟩) (fun b o _ _ hc e _ => k b o hc e) (fun b o _ _ hc e _ => ⟨o.slots, k b o hc e⟩)
    (fun b o _ e n => ?_) (fun b o hc e => ⟨o, k b o hc e⟩) (fun b xs e => ?_) (fun b o u e => ?_) (fun b ps e => ⟨#[], ?_⟩) (fun m hm => ?_) (fun b u e => ?_) I.bare
  · rw [upd_ne (Nat.ne_of_lt (Nat.lt_of_lt_of_le (Heap.lt_size e) hT))]; exact n
  · rw [upd_ne (ne_of_none e hn)]; exact e
  · rw [upd_ne (ne_of_none e hn)]; exact e
  · rw [upd_ne (ne_of_none e hn), e]; simp
  · obtain ⟨o, es, ep, ho, r⟩ := hm
    exact ⟨o, es, ep, k _ o (fun z => (hf _ z).2.1 rfl) ho, r⟩
  · by_cases hb : b = T
    · subst hb
      rw [upd_same] at e
      cases e
      exact new
    · rw [upd_ne hb] at e
      refine (I.hok b u e).stay (fun c v hc q => k c v ?_ q) (fun c q => by rw [upd_ne (ne_of_none q hn)]; exact q) fun c xs q => by rw [upd_ne (ne_of_none q hn)]; exact q
      rcases hc with z | z
      · rw [z]; exact nit b u e
      · exact nit c _ z

end
section
variable {X : Cx}
theorem pi_one {tg : Expr} {pins : List (Addr × Obj)} {σ : St} {H : Hp} {s : Shared} {R : It → Hp → Prop} {J : It} {tn : Nat → Heap → Prop} {tk : Nat} (I : Inv X pins σ H s) (o : Obj)
    (T : Turn X.prog X.w X.K tg J [s.heap.objs.size] s.heap.objs.size tn) (st : tn 0 (s.heap.push o)) (q : R J H) : PIE X pins σ tg R (.ref s.heap.objs.size) { s with heap := s.heap.push o, toks := tk } := by
  refine ⟨s.heap.objs.size, [s.heap.objs.size], tn, J, H, rfl, I.kept fun b ob e => Heap.get?_push_of_some _ e, T, st, fun b hb => ?_, q⟩
  have e : b = s.heap.objs.size := by simpa using hb
  subst e
  exact I.fpOk (Nat.le_refl _) (I.hok.fresh (Nat.le_refl _))
end

def Itc (lo c : Int) (n : Nat) : It := ⟨fun i _ => i < n, fun i H x H' => H' = H ∧ x = .int (lo + (i : Nat) * c), fun i _ => n ≤ i⟩
def RgC (i j c : Int) (n : Nat) : Prop := c ≠ 0 ∧ c.natAbs < 1073741824 ∧ Builtin.Range.small i j c = true ∧ Builtin.Range.rangeSize i j c = n
def iRng3 (ta : TA) : TI := fun σ H R => ta σ H fun vs H1 => ∃ (i j c : Int) (n : Nat), vs = [.int i, .int j, .int c] ∧ RgC i j c n ∧ R (Itc i c n) H1
section
variable {X : Cx} {tg : Expr}
end
section
variable {X : Cx} {tg : Expr}
end

def Its (x : Str) : It := ⟨fun i _ => i < x.cps.size, fun i H v H' => H' = H ∧ ∃ c, x.cps[i]? = some c ∧ v = .str ⟨#[c]⟩, fun i _ => x.cps.size ≤ i⟩
theorem turn_str {P : Program} {w : World} {K : PySem.W.Frag} {tg : Expr} (it : Addr) (x : Str) (t : Tok) (ty : String) (hty : ty = "str_ascii_iterator" ∨ ty = "str_iterator") :
    Turn P w K tg (Its x) [it] it (fun i h => h.IsStrIter it ty x t i) where
  mem := by simp
  obj := fun i h st b hb => by
    have e : b = it := by simpa using hb
    subst e
    obtain ⟨o, e, c, d⟩ := st
    exact ⟨o, e, fun v z => by rw [d] at z; cases z⟩
  keep := fun i h h' st k => let ⟨o, ho, r⟩ := st; ⟨o, k it (by simp) o ho, r⟩
  item := by
    intro X hP hw hK hc i pins s σ H E I hf st hg
    subst hP hw hK
    obtain ⟨f0, f1, f2, f3, f4, f5⟩ := hf it (by simp)
    have W : Walks X.prog X.w X.A it [it] [it] x.cps.size (SignAt x) (fun i h => h.IsStrIter it ty x t i) := by
      rcases hty with e | e
      · rw [e]; exact Walks.strAscii (I.ok.hd hc) it x t
      · rw [e]; exact Walks.strWide (I.ok.hd hc) it x t
    have hno : ["enumerate", "zip", "dict_itemiterator", "dict_reverseitemiterator", "odict_iterator", "itertools.zip_longest", "itertools.pairwise"].contains ty = false := by
      rcases hty with e | e
      · rw [e]; decide
      · rw [e]; decide
    refine W.item i s _ _ hg st fun v h' tk hv st' kk => ?_
    obtain ⟨c, u, hcx, rfl⟩ := hv
    have I1 : Inv X pins σ H { s with heap := h', toks := tk } := I.turned (fun b o hb e => kk b o (by simpa using hb) e) f0 f1 f3 f4 f5
    obtain ⟨oi, e, cc, dd⟩ := id st'
    exact ⟨_, rfl, go_of (s := { s with heap := h', toks := tk }) e cc dd hno ⟨.str ⟨#[c]⟩, H, I1, ⟨u, rfl⟩, ⟨rfl, c, hcx, rfl⟩, st', fun b hb => (hf b hb).1⟩⟩
  done := by
    intro X hP hw hK hc i pins s σ H E I hf st hg
    subst hP hw hK
    obtain ⟨f0, f1, f2, f3, f4, f5⟩ := hf it (by simp)
    have hx : x.cps[i]? = none := Array.getElem?_eq_none hg
    rcases hty with e | e
    · rw [e] at st
      exact wpAny_pyNext_ascii_end (I.ok.hd hc) st hx fun h' eb => ⟨rfl, I.turned (t' := s.toks) (fun b o hb e => eb b o hb e) f0 f1 f3 f4 f5⟩
    · rw [e] at st
      exact wpAny_pyNext_wide_end (I.ok.hd hc) st hx fun h' eb => ⟨rfl, I.turned (t' := s.toks) (fun b o hb e => eb b o hb e) f0 f1 f3 f4 f5⟩
  self := fun A i s Q E st h => by
    rcases hty with e | e
    · rw [e] at st; exact wpAny_pyIter_striter_ascii st h
    · rw [e] at st; exact wpAny_pyIter_striter_wide st h
section
variable {prog : Program} {w : World} {A : Around} {E : Value → Shared → Prop} {s : Shared}
end

section
variable {X : Cx} {pins : List (Addr × Obj)} {σ : St} {H : Hp} {s : Shared} {d : Addr} {o : Obj}
end

section
variable {P : Program} {w : World} {K : PySem.W.Frag} {tg : Expr} {d : Addr} {o : Obj} {es : Array DictEntry} {ep : Nat}
end

section
variable {X : Cx} {tg e : Expr} {td : TE} {apos cpos : Pos}
end

def Ite (K : PySem.W.Frag) (a : Addr) : It :=
  ⟨fun i H => ∃ (xs : List V) (x : V), SqL K H a xs ∧ xs[i]? = some x, fun i H v H' => ∃ T x, v = .ref T ∧ H T = none ∧ H' = upd H T (.tup [.int (i : Nat), x]) ∧ ∀ xs, SqL K H a xs → xs[i]? = some x, fun i H => ∃ xs : List V, SqL K H a xs ∧ xs.length ≤ i⟩
def iEnum (K : PySem.W.Frag) (ta : TA) : TI := fun σ H R => ta σ H fun vs H1 => ∃ a xs, vs = [.ref a] ∧ SqL K H1 a xs ∧ R (Ite K a) H1
theorem boot_zip5 : bootBuiltins "zip" = some (.type "zip") := by decide +kernel
end L2

section 
namespace Bits
open PySem PyProof.Rows

end Bits
end 

section 
namespace TL
open PySem PySem.Builtin PySem.Builtin.Str PySem.StrLaws

abbrev tl (x : Str) : List Nat := x.cps.toList
theorem len_tl (x : Str) : x.length = (tl x).length := by simp [tl, Str.length]
theorem ext_tl {x y : Str} (h : tl x = tl y) : x = y := Str.ext' (Array.toList_inj.mp h)
theorem map_tl_inj : ∀ {l m : List Str}, l.map tl = m.map tl → l = m
  | [], [], _ => rfl
  | [], _ :: _, h => by simp at h
  | _ :: _, [], h => by simp at h
  | x :: l, y :: m, h => by
    rw [List.map_cons, List.map_cons] at h
    injection h with h1 h2
    rw [ext_tl h1, map_tl_inj h2]
def pre (S l : List Nat) : Bool := l.take S.length == S
def spl (S : List Nat) : Nat → List Nat → List Nat → List (List Nat)
  | _, acc, [] => [acc]
  | 0, acc, c :: r => if pre S (c :: r) = true then acc :: spl S (S.length - 1) [] r else spl S 0 (acc ++ [c]) r
  | k + 1, acc, _ :: r => spl S k acc r
def par (S : List Nat) : List Nat → List Nat → Option (List Nat × List Nat)
  | _, [] => none
  | acc, c :: r => if pre S (c :: r) = true then some (acc, (c :: r).drop S.length) else par S (acc ++ [c]) r

theorem spl_nil (S : List Nat) (k : Nat) (acc : List Nat) : spl S k acc [] = [acc] := by cases k <;> rfl
theorem spl_hit {S acc r : List Nat} {c : Nat} (h : pre S (c :: r) = true) : spl S 0 acc (c :: r) = acc :: spl S (S.length - 1) [] r := by
  show (if pre S (c :: r) = true then acc :: spl S (S.length - 1) [] r else spl S 0 (acc ++ [c]) r) = _
  rw [if_pos h]
theorem spl_miss {S acc r : List Nat} {c : Nat} (h : pre S (c :: r) = false) : spl S 0 acc (c :: r) = spl S 0 (acc ++ [c]) r := by
  show (if pre S (c :: r) = true then acc :: spl S (S.length - 1) [] r else spl S 0 (acc ++ [c]) r) = _
  rw [if_neg (by rw [h]; exact Bool.false_ne_true)]
theorem spl_pass (S : List Nat) : ∀ (k : Nat) (acc l : List Nat), spl S k acc l = spl S 0 acc (l.drop k)
  | 0, _, _ => by rw [List.drop_zero]
  | k + 1, acc, [] => by rw [List.drop_nil, spl_nil, spl_nil]
  | k + 1, acc, c :: r => by
    show spl S k acc r = spl S 0 acc (r.drop k)
    exact spl_pass S k acc r
theorem pre_nil {S : List Nat} (hS : S ≠ []) : pre S [] = false := by
  cases S with
  | nil => exact absurd rfl hS
  | cons s S => rfl
theorem getElem_drop_cons {L : List Nat} {a : Nat} (h : a < L.length) : ∃ c, L.drop a = c :: L.drop (a + 1) := ⟨L[a], List.drop_eq_getElem_cons h⟩
theorem spl_run (S L : List Nat) : ∀ (m a : Nat) (acc : List Nat), a + m ≤ L.length → (∀ k, a ≤ k → k < a + m → pre S (L.drop k) = false) →
    spl S 0 acc (L.drop a) = spl S 0 (acc ++ (L.drop a).take m) (L.drop (a + m))
  | 0, a, acc, _, _ => by rw [List.take_zero, List.append_nil, Nat.add_zero]
  | m + 1, a, acc, h, hn => by
    have hlt : a < L.length := by omega
    obtain ⟨c, e⟩ := getElem_drop_cons hlt
    have h0 := hn a (Nat.le_refl _) (by omega)
    have ih := spl_run S L m (a + 1) (acc ++ [c]) (by omega) (fun k h1 h2 => hn k (by omega) (by omega))
    have e2 : a + 1 + m = a + (m + 1) := by omega
    rw [e2] at ih
    rw [e] at h0
    rw [e, spl_miss h0, ih, List.take_succ_cons, List.append_assoc] <;> rfl
theorem drop_two (L : List Nat) (a b : Nat) : (L.drop a).drop b = L.drop (a + b) := by
  first
    | rw [List.drop_drop]
    | rw [List.drop_drop, Nat.add_comm]
theorem spl_at {S L : List Nat} (hS : S ≠ []) {c : Nat} {acc : List Nat} (h : pre S (L.drop c) = true) : spl S 0 acc (L.drop c) = acc :: spl S 0 [] (L.drop (c + S.length)) := by
  rw [← drop_two]
  cases e : L.drop c with
  | nil => rw [e, pre_nil hS] at h; cases h
  | cons d r =>
    rw [e] at h
    rw [spl_hit h, spl_pass]
    cases S with
    | nil => exact absurd rfl hS
    | cons s S => rfl
theorem at_iff {x y : Str} (hy : tl y ≠ []) (i : Nat) : At x y x.length i ↔ pre (tl y) ((tl x).drop i) = true := by
  have hx := len_tl x
  have hl := len_tl y
  constructor
  · intro h
    have h2 := h.2
    rw [subAt_eq, hl] at h2
    exact h2
  · intro h
    have e : ((tl x).drop i).take (tl y).length = tl y := eq_of_beq h
    have e1 := congrArg List.length e
    rw [List.length_take, List.length_drop] at e1
    have e2 : 0 < (tl y).length := List.length_pos_iff.mpr hy
    refine ⟨by omega, ?_⟩
    rw [subAt_eq, hl]
    exact h
theorem no_at {x y : Str} (hy : tl y ≠ []) {i : Nat} (h : ¬ At x y x.length i) : pre (tl y) ((tl x).drop i) = false := by
  cases hp : pre (tl y) ((tl x).drop i) with
  | false => rfl
  | true => exact absurd ((at_iff hy i).mpr hp) h
theorem len1 {y : Str} (hy : tl y ≠ []) : 1 ≤ y.length := by
  have e2 : 0 < (tl y).length := List.length_pos_iff.mpr hy
  rw [len_tl y]
  exact e2
theorem tl_strSub (x : Str) (i j : Nat) : tl (strSub x i j) = ((tl x).drop i).take (j - i) := strSub_toList x i j
theorem tl_strSub_end (x : Str) (i : Nat) : tl (strSub x i x.length) = (tl x).drop i := by
  rw [tl_strSub, len_tl x]
  exact List.take_of_length_le (by rw [List.length_drop] <;> omega)

theorem parts_spl {x y : Str} (hy : tl y ≠ []) : ∀ (cuts : List Nat) (a f : Nat), a ≤ (tl x).length → ChainG x y x.length a cuts f → (∀ k, f ≤ k → ¬ At x y x.length k) →
    (partsFrom x y.length a cuts).map tl = spl (tl y) 0 [] ((tl x).drop a)
  | [], a, f, ha, h, hn => by
    have e : f = a := h
    subst e
    show [tl (strSub x f x.length)] = _
    have run := spl_run (tl y) (tl x) ((tl x).length - f) f [] (by omega) (fun k h1 _ => no_at hy (hn k h1))
    have e2 : f + ((tl x).length - f) = (tl x).length := by omega
    rw [e2, List.drop_length, spl_nil, List.nil_append, List.take_of_length_le (by rw [List.length_drop] <;> omega)] at run
    rw [run, tl_strSub_end]
  | c :: r, a, f, ha, h, hn => by
    obtain ⟨h1, h2, h3, h4⟩ := h
    have hc : c + y.length ≤ x.length := h2.1
    have hx := len_tl x
    have hl := len_tl y
    have ih := parts_spl hy r (c + y.length) f (by omega) h4 hn
    show tl (strSub x a c) :: (partsFrom x y.length (c + y.length) r).map tl = _
    have run := spl_run (tl y) (tl x) (c - a) a [] (by omega) (fun k k1 k2 => no_at hy (h3 k k1 (by omega)))
    have e2 : a + (c - a) = c := by omega
    rw [e2, List.nil_append, spl_at hy ((at_iff hy c).mp h2)] at run
    rw [run, ih, tl_strSub, hl]

theorem split_spl (x y : Str) (hy : tl y ≠ []) (hk : ¬ Builtin.Str.strKind x < Builtin.Str.strKind y) : (Txt.split x y).map tl = spl (tl y) 0 [] (tl x) := by
  obtain ⟨f, g, hn⟩ := occ_tight x y (len1 hy)
  have key := parts_spl hy _ 0 f (Nat.zero_le _) g hn
  rw [List.drop_zero] at key
  have none_case : occurrences x y 0 x.length (x.length + 1) = [] → [x].map tl = spl (tl y) 0 [] (tl x) := fun ho => by
    rw [ho] at key
    rw [← key]
    show [tl x] = [tl (strSub x 0 x.length)]
    rw [sub_whole]
  unfold Txt.split
  by_cases h1 : (decide (x.length < y.length) || decide (Builtin.Str.strKind x < Builtin.Str.strKind y)) = true
  · rw [if_pos h1]
    have hlt : x.length < y.length := by
      simp only [Bool.or_eq_true, decide_eq_true_eq] at h1
      rcases h1 with h | h
      · exact h
      · exact absurd h hk
    refine none_case ?_
    cases ho : occurrences x y 0 x.length (x.length + 1) with
    | nil => rfl
    | cons c r =>
      rw [ho] at g
      have hc : c + y.length ≤ x.length := g.2.1.1
      omega
  · rw [if_neg h1]
    by_cases h2 : (occurrences x y 0 x.length (x.length + 1)).isEmpty = true
    · rw [if_pos h2]
      exact none_case (List.isEmpty_iff.mp h2)
    · rw [if_neg h2, partsBetween_eq]
      exact key
theorem kind_ok {x y : Str} (h : y.cps.all (· < 256) = true) : ¬ Builtin.Str.strKind x < Builtin.Str.strKind y := by
  have e : Builtin.Str.strKind y = 1 := by unfold PySem.Builtin.Str.strKind; rw [if_pos h]
  rw [e]
  unfold PySem.Builtin.Str.strKind
  split
  · omega
  · split <;> omega

end TL
end 

namespace L2
open PySem PySem.Spec PyProof.Rows

theorem vals_strs : ∀ l : List (Str × Tok), Vals ((l.map (·.1)).map V.str) (strValues l)
  | [] => .nil
  | p :: r => .cons ⟨p.2, rfl⟩ (vals_strs r)
theorem strs_of_vals : ∀ {ys : List Str} {us : List Value}, Vals (ys.map V.str) us → StrsAre us ys
  | [], _, .nil => .nil
  | y :: ys, _, .cons r t => by
    obtain ⟨k, rfl⟩ := r
    exact .cons y k (strs_of_vals t)

def rNewStrs (ys : List Str) : Hp → VK → Prop := fun H Q => ∀ p, H p = none → Q (.ref p) (upd H p (.lst (ys.map V.str)))

section
variable {X : Cx} {pins : List (Addr × Obj)} {σ : St} {H : Hp} {s : Shared} {Q : VK}
theorem laid_strs {l : List (Str × Tok)} {ys : List Str} {k : Nat} (I : Inv X pins σ H s) (e : l.map (·.1) = ys) (hz : ys.length ≤ sizeLine) (h : rNewStrs ys H Q) :
    EP X pins σ Q (.ref s.heap.objs.size) { s with toks := k, heap := s.heap.push { cls := .type "list", data := .seq (strValues l).toArray } } := by
  have hp := I.hok.fresh (Nat.le_refl _)
  refine ⟨.ref s.heap.objs.size, upd H s.heap.objs.size (.lst (ys.map V.str)), I.laid (fun b u q => Heap.get?_push_of_some _ q) (Nat.le_refl _) ⟨by rw [List.length_map]; exact hz, strValues l, _, ?_, Heap.get?_push_size _ rfl⟩, rfl, h _ hp⟩
  rw [← e]
  exact vals_strs l
end

section
variable {X : Cx}

theorem mt_split : MtR X "str.split" (fun x xs H Q => ∃ a b, x = .str a ∧ xs = [.str b] ∧ (b.length == 0) = false ∧ a.length + 2 ≤ sizeLine ∧ rNewStrs (Txt.split a b) H Q) := by
  intro pins s σ H x xs v us Q I rx rs h
  obtain ⟨a, b, rfl, rfl, hb, hz, h⟩ := h
  obtain ⟨t, rfl⟩ := rx
  cases rs with
  | cons r1 rs =>
    cases rs
    obtain ⟨u, rfl⟩ := r1
    have hl : (Txt.split a b).length ≤ sizeLine := Nat.le_trans (PyProof.Rows.split_le a b) hz
    have hn : (Builtin.Str.partsBetween a (Builtin.Str.occurrences a b 0 a.length (a.length + 1)) b.length).length ≤ sizeLine := by
      have e1 := StrLaws.occ_length_le a b 0 a.length (a.length + 1)
      rw [length_partsBetween]; omega
    cases h1 : (decide (a.length < b.length) || decide (Builtin.Str.strKind a < Builtin.Str.strKind b))
    · cases hf : (Builtin.Str.occurrences a b 0 a.length (a.length + 1)).isEmpty
      · refine call_meets F.slot_str_split (typeIs_str _ _ _) F.entry_str_split (F.args_str_split_2 _ _) (meets_str_split_sep a b t u h1 hb hf (by omega) hn) ?_
        show EP X pins σ Q (.ref s.heap.objs.size) { s with toks := _, heap := s.heap.push { cls := .type "list", data := .seq (strsFrom s.toks (Builtin.Str.partsBetween a (Builtin.Str.occurrences a b 0 a.length (a.length + 1)) b.length)).toArray } }
        rw [strsFrom_eq]
        exact laid_strs (ys := Txt.split a b) I ((numbered_texts _ _).trans ((if_neg (ne_true_of_eq_false h1)).trans (if_neg (ne_true_of_eq_false hf))).symm) hl h
      · refine call_meets F.slot_str_split (typeIs_str _ _ _) F.entry_str_split (F.args_str_split_2 _ _) (meets_str_split_not_found a b t u h1 hb hf) ?_
        exact laid_strs (l := [(a, t)]) (ys := Txt.split a b) (k := s.toks) I ((if_neg (ne_true_of_eq_false h1)).trans (if_pos hf)).symm hl h
    · refine call_meets F.slot_str_split (typeIs_str _ _ _) F.entry_str_split (F.args_str_split_2 _ _) (meets_str_split_cannot_occur a b t u h1) ?_
      exact laid_strs (l := [(a, t)]) (ys := Txt.split a b) (k := s.toks) I (if_pos h1).symm hl h

theorem mt_join : MtR X "str.join" (fun x xs H Q => ∃ a p, ∃ ys : List Str, x = .str a ∧ xs = [.ref p] ∧ (SqL X.K H p (ys.map V.str) ∨ SqT X.K H p (ys.map V.str)) ∧
    (ys.map (·.length)).sum + ys.length * a.length ≤ 16777216 ∧ Q (.str (Txt.join a ys)) H) := by
  intro pins s σ H x xs v us Q I rx rs h
  obtain ⟨a, p, ys, rfl, rfl, hp, hz, h⟩ := h
  obtain ⟨t, rfl⟩ := rx
  cases rs with
  | cons r1 rs =>
    cases rs
    cases r1
    rcases hp with hp | hp
    · obtain ⟨its, r, ⟨o, n, ho, hc, _, hd⟩, _⟩ := I.list hp
      exact PyProof.Rows.join_list (items := its.toArray) ⟨o, ho, hc, n, hd⟩ (by rw [List.toList_toArray]; exact strs_of_vals r) hz fun t' k => ⟨.str _, H, I.tok k, ⟨t', rfl⟩, h⟩
    · obtain ⟨its, r, ht, _⟩ := I.tuple hp
      exact PyProof.Rows.join_tuple (items := its.toArray) ht (by rw [List.toList_toArray]; exact strs_of_vals r) hz fun t' k => ⟨.str _, H, I.tok k, ⟨t', rfl⟩, h⟩

theorem call_int_str : CallR X (.type "int") (fun xs H Q => ∃ a n, xs = [.str a] ∧ PySem.intText? a = some n ∧ a.length ≤ 640 ∧ Q (.int n) H) := by
  intro pins s σ H xs us Q I rs h
  obtain ⟨a, n, rfl, hn, hl, h⟩ := h
  cases rs with
  | cons r1 rs =>
    cases rs
    obtain ⟨t, rfl⟩ := r1
    exact PySem.W.KIN.call_text hn hl ⟨.int n, H, I.tok _, ⟨_, rfl⟩, h⟩
end

section
variable {X : Cx} {o e : Expr} {to te : TE}
def tM1 (r : V → List V → Hp → VK → Prop) (to te : TE) : TE := fun σ H Q => to σ H fun x H1 => (∃ a, x = .str a) ∧ te σ H1 fun y H2 => r x [y] H2 Q
theorem pe_m1 {id : String} {name : Str} {apos pos : Pos} {r : V → List V → Hp → VK → Prop} (slot : Slot "str" name id) (ty : typeOf (.builtin id) = pure (.type "method_descriptor")) (rule : MtR X id r) (ho : PE X o to) (he : PE X e te)
    (hs : starEach [e] X.env = [(false, eval e X.env)] := by rfl) (hbase : attributeBase o name X.env (eval o X.env) = eval o X.env := by rfl) (hline : (apos.endLine == pos.line) = true := by rfl) :
    PE X (.Call (.Attribute o name apos) [e] [] pos) (tM1 r to te) := by
  intro pins s σ H Q I h
  refine PySem.Call_method1 hbase hs hline (thn (ho pins s σ H _ I h) fun v s1 ⟨x, H1, I1, r1, q1⟩ => ?_)
  obtain ⟨⟨a, rfl⟩, q1⟩ := q1
  obtain ⟨t, rfl⟩ := _root_.id r1
  refine ⟨"str", _, F.plainAttrs_str, slot, ty, typeIs_str _ _ _, (fun _ e => nomatch e), Calls.callWith_builtin rfl (Calls.evalArgs_plain (Calls.spliced_cons ?_))⟩
  exact thn (he pins s1 σ H1 _ I1 q1) fun u s2 ⟨y, H2, I2, r2, q2⟩ => Calls.spliced_nil (rule pins s2 σ H2 _ [y] _ [u] Q I2 r1 (.cons r2 .nil) q2)

end
end L2

namespace L2
open PySem PySem.Spec PyProof.Rows

section
variable {X : Cx}
end

theorem IsPart.raw {v : Value} {o : Option Int} (p : IsPart v o) : ∃ l : Option (Int × Tok), v = partValue l ∧ l.map (·.1) = o := by
  cases p with
  | none => exact ⟨none, rfl, rfl⟩
  | int i t => exact ⟨some (i, t), rfl, rfl⟩

def clipS (n d : Nat) : Option Int → Int
  | none => (d : Int)
  | some i => max 0 (min (if i < 0 then i + (n : Int) else i) (n : Int))
theorem clipS_eq (n d : Nat) (o : Option Int) : clipS n d o = ((HT.sIx n d o : Nat) : Int) := by
  cases o with
  | none => rfl
  | some v =>
    show max (0 : Int) (min (if v < 0 then v + (n : Int) else v) (n : Int)) = (((if v < 0 then (v + (n : Int)).toNat else min v.toNat n) : Nat) : Int)
    by_cases hv : v < 0
    · simp only [if_pos hv]
      omega
    · simp only [if_neg hv]
      omega
theorem sidx_clip (a b : Option Int) (n : Nat) : Builtin.Str.strSliceIndices a b 1 n = sliceRange (clipS n 0 a) (clipS n n b) 1 := by
  have h1 : ((1 : Int) > 0) = True := by simp
  cases a <;> cases b <;> first
    | rfl
    | (simp only [Builtin.Str.strSliceIndices, clipS, h1, if_true]; rfl)
    | simp [Builtin.Str.strSliceIndices, clipS]
theorem sidx (a b : Option Int) (n : Nat) : Builtin.Str.strSliceIndices a b 1 n = (List.range (HT.sIx n n b - HT.sIx n 0 a)).map (fun k => HT.sIx n 0 a + k) := by
  rw [sidx_clip, clipS_eq, clipS_eq]
  generalize HT.sIx n 0 a = p
  generalize HT.sIx n n b = q
  simp only [sliceRange, show ((1 : Int) > 0) = True from by simp, if_true]
  by_cases hlt : (p : Int) < q
  · have e3 : (((q : Int) - p + 1 - 1) / 1).toNat = q - p := by first | omega | (simp; done) | (simp; omega)
    simp only [hlt, if_true, e3]
    refine List.map_congr_left fun k _ => ?_
    omega
  · have : q - p = 0 := by omega
    simp [hlt, this]

def cutS (z : Str) (lo hi : Option Int) : Str :=
  ⟨((z.cps.toList.drop (HT.sIx z.length 0 lo)).take (HT.sIx z.length z.length hi - HT.sIx z.length 0 lo)).toArray⟩
theorem sliceText_cut (z : Str) (lo hi : Option Int) : PySem.StrLaws.sliceText z lo hi = cutS z lo hi := by
  have h1 : HT.sIx z.length 0 lo ≤ z.length := HT.sIx_le _ _ (Nat.zero_le _) _
  have h2 : HT.sIx z.length z.length hi ≤ z.length := HT.sIx_le _ _ (Nat.le_refl _) _
  have hp : HT.sIx z.length 0 lo ≤ max (HT.sIx z.length 0 lo) (HT.sIx z.length z.length hi) := Nat.le_max_left _ _
  have hq : max (HT.sIx z.length 0 lo) (HT.sIx z.length z.length hi) ≤ z.length := Nat.max_le.mpr ⟨h1, h2⟩
  have hd : max (HT.sIx z.length 0 lo) (HT.sIx z.length z.length hi) - HT.sIx z.length 0 lo = HT.sIx z.length z.length hi - HT.sIx z.length 0 lo := by omega
  have e : Builtin.Str.strSliceIndices lo hi 1 z.length =
      Builtin.Str.strSliceIndices (some ((HT.sIx z.length 0 lo : Nat) : Int)) (some ((max (HT.sIx z.length 0 lo) (HT.sIx z.length z.length hi) : Nat) : Int)) 1 z.length := by
    rw [PySem.StrLaws.strSliceIndices_plain hp hq, hd, sidx]
  have e2 : PySem.StrLaws.sliceText z lo hi =
      PySem.StrLaws.sliceText z (some ((HT.sIx z.length 0 lo : Nat) : Int)) (some ((max (HT.sIx z.length 0 lo) (HT.sIx z.length z.length hi) : Nat) : Int)) := by
    unfold PySem.StrLaws.sliceText
    rw [e]
  rw [e2, PySem.StrLaws.sliceText_nat z hp hq, hd]
  rfl
theorem cutS_length (z : Str) (lo hi : Option Int) : (cutS z lo hi).length ≤ z.length := by
  show (((z.cps.toList.drop (HT.sIx z.length 0 lo)).take (HT.sIx z.length z.length hi - HT.sIx z.length 0 lo)).toArray).size ≤ z.cps.size
  rw [List.size_toArray, List.length_take, List.length_drop, Array.length_toList]
  omega
def rSlS : V → Option Int → Option Int → Hp → VK → Prop := fun x lo hi H Q => ∃ z, x = .str z ∧ z.length ≤ sizeLine ∧ Q (.str (cutS z lo hi)) H
theorem sl_str {X : Cx} : SlR X rSlS := by
  intro pins s σ H x v vl vu lo hi sl Q I rx hs pl pu h
  obtain ⟨z, rfl, hz, q⟩ := h
  obtain ⟨t, rfl⟩ := rx
  obtain ⟨os, hos, hcs, hds⟩ := hs
  obtain ⟨l, rfl, rfl⟩ := IsPart.raw pl
  obtain ⟨u, rfl, rfl⟩ := IsPart.raw pu
  refine ⟨"str", _, F.slot_str_getitem.lookup, typeIs_str _ _ _, ?_⟩
  refine wpAny_getItem_str_slice (l := l) (u := u) (st := none) ⟨os, hos, hcs, hds⟩ rfl ?_
  have hl : (PySem.StrLaws.sliceText z (l.map (·.1)) (u.map (·.1))).length ≤ sizeLine := by
    rw [sliceText_cut]
    exact Nat.le_trans (cutS_length z _ _) hz
  rw [← sliceText_cut] at q
  unfold PySem.StrLaws.sliceText at q hl
  show Made.post (if ((1 : Int) == 1 && (Builtin.Str.strSliceIndices (l.map (·.1)) (u.map (·.1)) 1 z.length).length == z.length) = true then Made.val (.str z t)
    else Made.str ⟨((Builtin.Str.strSliceIndices (l.map (·.1)) (u.map (·.1)) 1 z.length).filterMap (z.cps[·]?)).toArray⟩) (EP X pins σ Q) s
  by_cases c : ((1 : Int) == 1 && (Builtin.Str.strSliceIndices (l.map (·.1)) (u.map (·.1)) 1 z.length).length == z.length) = true
  · rw [if_pos c] at q ⊢
    exact ⟨.str z, H, I, ⟨t, rfl⟩, q⟩
  · rw [if_neg c] at q hl ⊢
    exact ⟨hl, .str _, H, I.tok _, ⟨_, rfl⟩, q⟩
end L2

namespace Att
open PySem PySem.W PySem.Calls PyProof.Rows

theorem ints_of_wellAll {P : Params} {h : Heap} : ∀ (ns : List Int) (vs : List Value), WellAll P h vs (ns.map WData.int) → IntsAre vs ns := by
  intro ns
  induction ns with
  | nil =>
    intro vs w
    rw [List.map_nil] at w
    cases w
    exact .nil
  | cons n ns ih =>
    intro vs w
    rw [List.map_cons] at w
    cases w with
    | cons a b =>
      cases a
      exact .cons _ _ (ih _ b)

theorem script_of {l : OpenLaw} {n : Nat} (hn : l.most = some n) {P : Params} {h : Heap} {args : List WData} {vals : List Value}
    (hpre : l.row.toRowW.claim.pre args = true) (hwl : WellAll P h vals args) :
    ∃ a vs ns, vals = [Value.ref a] ∧ args = [WData.list (ns.map WData.int)] ∧ h.get? a = some { cls := .type "list", data := .seq vs.toArray } ∧ IntsAre vs ns ∧ ns.length ≤ n := by
  have hsh : WShape.hasAll [] args [.list .int] = true := (pre_splitW hpre).1
  have hc : l.pre.holds [] { args := args } = true := (pre_splitW hpre).2
  obtain ⟨d, r, rfl, h1, h2⟩ := hasAllW_cons hsh
  obtain rfl := hasAllW_nil h2
  obtain ⟨xs, rfl, h3⟩ := hasW_list h1
  obtain ⟨ns, rfl⟩ := items_int h3
  have hlen : ns.length ≤ n := by
    unfold OpenLaw.pre at hc
    have h4 : (WTm.not (.lt (.lit (.int (n : Int))) (.len (.arg 0)))).holds [] { args := [.list (ns.map .int)] } = true := by
      have h4 := (holds_andW hc).1
      rw [hn] at h4
      exact h4
    have h5 := condW_of h4 (w_not (w_lt w_lit (w_len_list (w_arg rfl))))
    rw [List.length_map] at h5
    refine Nat.le_of_not_lt fun q => ?_
    have q' : (n : Int) < ((ns.length : Nat) : Int) := by omega
    first
      | (rw [decide_eq_true q'] at h5; exact absurd h5 (by decide))
      | (simp at h5; omega)
  cases hwl with
  | cons w1 w2 =>
    cases w2
    cases w1 with
    | list ho hall => exact ⟨_, _, ns, rfl, rfl, ho, ints_of_wellAll ns _ hall, hlen⟩

theorem post_true (l : OpenLaw) (args : List WData) : l.row.toRowW.claim.post args (.bool true) args = true :=
  postW_of (r := l.row.toRowW) (X := (true == true))
    (show WShape.has [] (.bool true) .bool = true by first | rfl | decide | simp [WShape.has, WShape.arms, WShape.armsAll])
    (show (WTm.eq .res (.lit (.bool true))).value [] { args := args, res := some (.bool true), after := args } = some (.bool (true == true)) from w_eq_bool (w_res rfl) w_lit) rfl

theorem attach_call {l : OpenLaw} {n : Nat} {q : Program} {loose : List Str} {XP : (Str → Option Value) → Heap → Prop} {YP : World → Heap → Prop} {d : DefRec}
    (hn : l.most = some n) (hdf : d.params.defaults = [])
    (call : ∀ (w : World) (s₀ s₁ : Shared) (mg mb : Str → Option Value) (fa : Addr) (o : Obj) (pm cd doc : Value) (a : Addr) (vs : List Value) (ns : List Int),
      Ground q loose [] XP w s₀ mg mb s₁.heap → YP w s₁.heap →
      s₁.heap.get? fa = some o → o.data = .func (docDef d.name d.params d.body d.scope pm cd doc) → s₁.heap.CodeRec cd d.name → mg d.name = some (.ref fa) →
      s₁.heap.get? a = some { cls := .type "list", data := .seq vs.toArray } → IntsAre vs ns → ns.length ≤ n → s₁.gens = #[] →
      codeAny (model l.prog w) callerA (.call (.ref fa) ⟨[.ref a], []⟩) (fun r s' => r = .ok (.ret (.bool true)) ∧ OldK s₁.heap s'.heap ∧ s'.os = s₁.os ∧ AllBare s'.gens) s₁) :
    WalkO q loose XP YP l.row.toRowW d [] (fun f vs => PySem.call f vs) := by
  intro w s₀ s₁ mg mb G Y fa o pm cd doc dV kV ho hd hcd hD hmg hg args vals as hpre hlay hrd hwl hlo
  obtain rfl : dV = .none := Dflts.none hD hdf
  obtain rfl : kV = .none := Dflts.noKw hD
  obtain ⟨a, vs, ns, rfl, rfl, hobj, hints, hlen⟩ := script_of hn hpre hwl
  refine enter_call (codeAny_mono (call w s₀ s₁ mg mb fa o pm cd doc a vs ns G Y ho (fd_plain hd) hcd hmg hobj hints hlen hg) fun r s' hq => ?_)
  obtain ⟨rfl, h2, h3, h4⟩ := hq
  exact ⟨.inl ⟨.bool true, .bool true, [], rfl, fun _ => rfl, .bool true, post_true l _, fun _ => ⟨List.Pairwise.nil, fun _ hm => (nomatch hm)⟩⟩, h2, h3, h4⟩

section
variable {prog : Program} {w : World} {A : Around} {E : Value → Shared → Prop} {s : Shared} {K : Frag}

end
end Att

namespace L2
open PySem PySem.Spec PyProof.Rows

theorem vals_ints : ∀ {vs : List Value} {ns : List Int}, IntsAre vs ns → Vals (ns.map V.int) vs
  | _, _, .nil => .nil
  | _, _, .cons n t h => .cons ⟨t, rfl⟩ (vals_ints h)

def Only (H : Hp) : Prop := ∀ b, H b = none ∨ ∃ o xs, H b = some (.frz o (.lst xs))

theorem law_call {P : Program} {w : World} {K : PySem.W.Frag} {mg mb : Str → Option Value} {CX : CXT} {k : Nat} {fa a : Addr} {fd : FuncData} {x : Str} {sp : Sp} {s₁ : Shared} {vs : List Value} {ns : List Int}
    (KX : K.In s₁.heap) (hns : s₁.heap.Ns mainGlobals mg) (hb : s₁.heap.Ns builtinsNs mb) (hbb : ∀ x : Str, x ≠ "__name__" → mb x = bootBuiltins x) (hlim : s₁.heap.NoLimit) (hg : s₁.gens = #[])
    (ha : s₁.heap.get? a = some { cls := .type "list", data := .seq vs.toArray }) (hi : IntsAre vs ns) (hl : ns.length ≤ sizeLine) (hr : Room k callerA)
    (F : ∀ base : Heap, K.In base → base.Ns mainGlobals mg → FnOk P w K mg base CX k fa fd [x] sp) (hbind : ∀ (s : Shared) (u : Value), BindsTo s fd ⟨[u], []⟩ [(x, u)])
    (hsp : ∀ H : Hp, Only H → SqL K H a (ns.map V.int) → sp [.ref a] H (fun v _ => v = .bl true) fun _ _ _ => False)
    (hCX : ∀ H e s', CX [] H s₁ (fun _ _ _ => False) e s' → False) :
    codeAny (model P w) callerA (.call (.ref fa) ⟨[.ref a], []⟩) (fun r s' => r = .ok (.ret (.bool true)) ∧ OldK s₁.heap s'.heap ∧ s'.os = s₁.os ∧ AllBare s'.gens) s₁ := by
  have rv := vals_ints hi
  have lenV := hi.length
  -- from an abstract heap in which nothing but the script may be tracked
  have core : ∀ H : Hp, Only H → SqL K H a (ns.map V.int) → HOk P w H s₁.heap → (∀ b, H b ≠ none → b = a) → (H a ≠ none → K.lookup a = none) →
      codeAny (model P w) callerA (.call (.ref fa) ⟨[.ref a], []⟩) (fun r s' => r = .ok (.ret (.bool true)) ∧ OldK s₁.heap s'.heap ∧ s'.os = s₁.os ∧ AllBare s'.gens) s₁ := by
    intro H hO hS hok hA hK
    have base_of : ∀ {b : Addr} {o : Obj}, s₁.heap.get? b = some o → H b = none → (hidT s₁.heap H).get? b = some o := fun e n => hidT_get e n
    have noA : ∀ {b : Addr} {o : Obj} {es : Array DictEntry} {ep : Nat}, s₁.heap.get? b = some o → o.data = .dict es ep → H b = none := fun {b o es ep} e d => by
      cases q : H b with
      | none => rfl
      | some u =>
        have e' : b = a := hA b (by rw [q]; simp)
        subst e'
        rw [ha] at e; cases e
        have d' : Data.seq vs.toArray _ = Data.dict es ep := d
        cases d'
    have nsK : ∀ {b : Addr} {m : Str → Option Value}, s₁.heap.Ns b m → (hidT s₁.heap H).Ns b m := fun {b m} ⟨o, es, ep, e, d, r⟩ => ⟨o, es, ep, base_of e (noA e d), d, r⟩
    have hKb : K.In (hidT s₁.heap H) := fun b o e => base_of (KX b o e) (by
      cases q : H b with
      | none => rfl
      | some u =>
        have e' : b = a := hA b (by rw [q]; simp)
        subst e'
        rw [hK (by rw [q]; simp)] at e; cases e)
    have hM : Mod K mg (hidT s₁.heap H) := ⟨hKb, nsK hns, ⟨mb, nsK hb, hbb⟩, let ⟨mc, h1, h2⟩ := hlim; ⟨mc, nsK h1, h2⟩⟩
    have e0 : Env0 P w K mg (hidT s₁.heap H) callerA [] s₁ H := ⟨rfl, hM, fun b o e => of_hidT e, Nat.le_of_eq (hidT_size _ _), trivial, fun b hb => absurd (show b ∈ ([] : List Addr) from hb) (by simp), hok, .of_eq hg⟩
    refine codeAny_mono ((F _ hKb (nsK hns)).run callerA [] s₁ H ⟨[.ref a], []⟩ [.ref a] [.ref a] _ _ hr e0 (hbind s₁ (.ref a)) (.cons rfl .nil) (hsp H hO hS)) fun r s' h => ?_
    cases r with
    | error e => exact (hCX H e s' h).elim
    | ok fl =>
      cases fl with
      | next => exact False.elim h
      | brk => exact False.elim h
      | cont => exact False.elim h
      | ret u =>
        obtain ⟨v, H', os, bare, un, hok', r', q⟩ := h
        have q' : v = .bl true := q
        subst q'
        obtain rfl : u = Value.bool true := r'
        refine ⟨rfl, OldK.of_keep fun b o e => ?_, os, bare⟩
        cases q : H b with
        | none => exact un.keep b o e q (by intro z; exact absurd (show b ∈ ([] : List Addr) from z) (by simp)) (by simp)
        | some u =>
          rcases hO b with z | ⟨ob, xs, z⟩
          · rw [q] at z; cases z
          · have z2 := un.frzs b ob _ z
            obtain ⟨e1, _⟩ := hok b _ z
            obtain ⟨e2, _⟩ := hok' b _ z2
            rw [e] at e1; cases e1
            exact e2
  cases hk : K.lookup a with
  | some o =>
    -- the script is one of the module's own objects
    have e := KX a o hk
    rw [ha] at e
    cases e
    refine core (fun _ => none) (fun _ => .inl rfl) (.inr ⟨_, vs.toArray, _, hk, rfl, rfl, rfl, by rw [List.size_toArray, lenV]; exact hl, by simpa using rv⟩) (fun b u z => by have z' : (none : Option HO) = some u := z; cases z') (fun b z => absurd rfl z) fun z => absurd rfl z
  | none =>
    refine core (fun b => if b = a then some (.frz { cls := .type "list", data := .seq vs.toArray } (.lst (ns.map V.int))) else none) (fun b => ?_) (.inl (.inr ⟨{ cls := .type "list", data := .seq vs.toArray }, if_pos rfl⟩)) (fun b u z => ?_) (fun b z => ?_) fun _ => hk
    · by_cases hb : b = a
      · exact .inr ⟨_, _, if_pos hb⟩
      · exact .inl (if_neg hb)
    · by_cases hb : b = a
      · have z' := (if_pos hb).symm.trans z
        cases z'
        subst hb
        exact ⟨ha, by rw [List.length_map]; exact hl, vs, _, rv, ha⟩
      · have z' := (if_neg hb).symm.trans z
        cases z'
    · by_cases hb : b = a
      · exact hb
      · exact absurd (if_neg hb) z
end L2

namespace L2
open PySem PySem.Spec PyProof.Rows

abbrev KOf {K : PySem.W.Frag} {h : Heap} (_ : K.In h) : PySem.W.Frag := K

theorem walk_of {l : PySem.W.OpenLaw} {n k : Nat} {q : Program} {loose : List Str} {XP : (Str → Option Value) → Heap → Prop} {YP : World → Heap → Prop} {d : DefRec} {K : Params → PySem.W.Frag} {CX : World → CXT} {sp : World → Sp} {x : Str}
    (hn : l.most = some n) (hn2 : n ≤ sizeLine) (hdf : d.params.defaults = []) (hr : Room k callerA)
    (hY : ∀ (w : World) (h : Heap), YP w h → (K w.params).In h)
    (F : ∀ (w : World) (mg : Str → Option Value) (fa : Addr) (h : Heap), (K w.params).In h → h.Ns mainGlobals mg → mg d.name = some (.ref fa) →
      ∃ fd : FuncData, (∀ (s : Shared) (u : Value), BindsTo s fd ⟨[u], []⟩ [(x, u)]) ∧
        ∀ base : Heap, (K w.params).In base → base.Ns mainGlobals mg → FnOk l.prog w (K w.params) mg base (CX w) k fa fd [x] (sp w))
    (hsp : ∀ (w : World) (H : Hp) (a : Addr) (ns : List Int), ns.length ≤ n → Only H → SqL (K w.params) H a (ns.map V.int) → sp w [.ref a] H (fun v _ => v = .bl true) fun _ _ _ => False)
    (hCX : ∀ (w : World) (H : Hp) (s : Shared) (e : Value) (s' : Shared), CX w [] H s (fun _ _ _ => False) e s' → False) :
    PySem.W.WalkO q loose XP YP l.row.toRowW d [] (fun f vs => PySem.call f vs) := by
  refine Att.attach_call hn hdf fun w s₀ s₁ mg mb fa o pm cd doc a vs ns G Y ho hd hcd hmg hobj hints hlen hg => ?_
  have KX := hY w _ Y
  obtain ⟨fd, hb, hF⟩ := F w mg fa _ KX G.T.g hmg
  exact law_call KX G.T.g G.T.b G.T.builtins G.T.nolimit hg hobj hints (Nat.le_trans hlen hn2) hr hF hb (fun H hO hS => hsp w H a ns hlen hO hS) fun H e s' => hCX w H s₁ e s'
end L2


namespace L2
open PySem PySem.Spec PyProof.Rows

def defArgs (s : Stmt) : Arguments := match s with
  | .FunctionDef _ a _ _ _ _ _ _ _ _ => a
  | _ => { posonlyargs := [], args := [], vararg := none, kwonlyargs := [], kw_defaults := [], kwarg := none, defaults := [] }
def defBody (s : Stmt) : List Stmt := match s with
  | .FunctionDef _ _ b _ _ _ _ _ _ _ => b
  | _ => []
def defScope (s : Stmt) : Scope := match s with
  | .FunctionDef _ _ _ _ _ _ sc _ _ _ => sc
  | _ => { kind := .function, names := [], isGenerator := false, isCoroutine := false }

abbrev CX0 : CXT := fun _ _ _ _ _ _ => False
abbrev E0 : XK := fun _ _ _ => False
theorem pass0 {X : Cx} : Passes CX0 X E0 := fun _ _ _ _ _ _ _ h => h.elim

structure Fun (K : PySem.W.Frag) (x qual : Str) (st : Stmt) (f : Addr) (fd : FuncData) : Prop where
  ex : ∃ (oc : Value) (od : Option Addr) (kV doc pm : Value) (an : Option Addr) (cdv ct : Value) (osl : Array (Option Value)),
    fd = PySem.W.fnOf x qual (defArgs st) (defBody st) (defScope st) .none kV doc pm an cdv ct ∧ K.lookup f = some ⟨oc, od, .func fd, osl⟩ ∧ PySem.W.codeIn K cdv qual = true
  kp : PySem.W.keepIn K (.ref f) = true
section
variable {P : Program} {w : World} {K : PySem.W.Frag} {mg : Str → Option Value} {base : Heap}
theorem Fun.ok {x qual : Str} {st : Stmt} {f : Addr} {fd : FuncData} {N ps : List Str} {k : Nat} {sp : Sp} (F : Fun K x qual st f fd) (S : FnScope N ps (defScope st)) (len : ∀ vs H Q E, sp vs H Q E → vs.length = ps.length)
    (hbody : ∀ (cdv : Value) (A : Around) (outer : List Env) (s : Shared) (H : Hp) (vs : List V) (Q : VK) (E : XK), Room k (A.deeper (envOfC qual (defScope st) s.heap.objs.size f cdv)) → sp vs H Q E →
      ∃ t, PSs (cxOf CX0 P w K mg base N qual (defScope st) f cdv A outer s H E).nox (defBody st) t ∧ t { nx := fun _ H' => Q .non H', rt := Q } (start N vs) H) : FnOk P w K mg base CX0 (k + 1) f fd ps sp := by
  obtain ⟨oc, od, kV, doc, pm, an, cdv, ct, osl, rfl, lk, hcd⟩ := F.ex
  refine fn_of lk hcd S len fun A outer s H vs Q E hr hsp => ?_
  obtain ⟨t, h, q⟩ := hbody cdv A outer s H vs Q E hr hsp
  exact ⟨t, h.nox, q⟩
theorem Fun.binds {x qual : Str} {st : Stmt} {f : Addr} {fd : FuncData} {ps : List Str} (F : Fun K x qual st f fd)
    (h : ∀ (kV doc pm : Value) (an : Option Addr) (cdv ct : Value) (us : List Value), us.length = ps.length → bindArgs (PySem.W.fnOf x qual (defArgs st) (defBody st) (defScope st) .none kV doc pm an cdv ct) ⟨us, []⟩ = pure (ps.zip us)) : Binds K fd ps [] := by
  obtain ⟨oc, od, kV, doc, pm, an, cdv, ct, osl, rfl, lk, hcd⟩ := F.ex
  exact .all (h kV doc pm an cdv ct)
theorem fun_mk {x qual : Str} {st : Stmt} {f : Addr} {oc : Value} {od an : Option Addr} {osl : Array (Option Value)} {kV doc pm cdv ct : Value} (l : K.lookup f = some ⟨oc, od, .func (PySem.W.fnOf x qual (defArgs st) (defBody st) (defScope st) .none kV doc pm an cdv ct), osl⟩)
    (c : PySem.W.codeIn K cdv qual = true) (k : PySem.W.keepIn K (.ref f) = true) : Fun K x qual st f (PySem.W.fnOf x qual (defArgs st) (defBody st) (defScope st) .none kV doc pm an cdv ct) := ⟨⟨oc, od, kV, doc, pm, an, cdv, ct, osl, rfl, l, c⟩, k⟩
end
theorem hu_of {A : Around} {k : Nat} (hr : Room k A) : A.units + 1 < cLine := Nat.lt_of_le_of_lt (Nat.add_le_add_left (by decide : 1 ≤ 64) _) hr.units
section
variable {X : Cx}
theorem pv (i : Nat) {x : Str} {pos : Pos} (hN : X.N[i]? = some x := by rfl) (hv : Vis X.env.scope x := by first | exact Or.inl rfl | exact Or.inr (Or.inl rfl) | exact Or.inr (Or.inr rfl)) (hd : (x == ("__debug__" : Str)) = false := by decide)
    (hcd : (x == ("__classdict__" : Str)) = false := by decide) : PE X (.Name x pos) (tVar i) := pe_var hN hv hd hcd
theorem call_lenD : CallR X (.builtin "len") (fun xs H Q => ∃ a kvs, xs = [V.ref a] ∧ H a = some (.dK kvs) ∧ Q (.int kvs.length) H) := by
  intro pins s σ H xs us Q I r h
  obtain ⟨a, kvs, rfl, ha, q⟩ := h
  obtain ⟨u, rfl, ru⟩ := vals1 r
  cases ru
  exact d_len I (.inl ha) fun t s' I' => ⟨.int kvs.length, H, I', ⟨t, rfl⟩, q⟩
end

def Same (H H' : Hp) : Prop := ∀ b o, H b = some o → H' b = some o
theorem Same.refl (H : Hp) : Same H H := fun _ _ h => h
theorem Same.trans {H H1 H2 : Hp} (a : Same H H1) (b : Same H1 H2) : Same H H2 := fun c o h => b c o (a c o h)
theorem Same.free {H H' : Hp} (e : Same H H') {l : Addr} (h : H' l = Option.none) : H l = Option.none := by
  cases q : H l with
  | none => rfl
  | some o =>
    rw [e l o q] at h
    cases h
theorem Same.seq {K : PySem.W.Frag} {H H' : Hp} {a : Addr} {xs : List V} (e : Same H H') (h : SqL K H a xs) : SqL K H' a xs := by
  rcases h with (h | ⟨o, h⟩) | h
  · exact .inl (.inl (e _ _ h))
  · exact .inl (.inr ⟨o, e _ _ h⟩)
  · exact .inr h

section
variable {κ : Type} [DecidableEq κ]
end
theorem at_of {xs : List V} {z : Int} {j : Nat} {v : V} (e : z = (j : Int)) (h : xs[j]? = some v) : atI xs z = some v := by
  rw [e]
  exact atI_nat h
end L2

namespace M
open PySem PySem.Spec PyProof.Rows L2

theorem ObjOk.fgtF {P : Program} {w : World} {H1 H2 : Hp} {h : Heap} {a : Addr} {o : HO} (x : ObjOk P w H1 h a o) (ho : ∀ b y, H1 b = some (.own y) → H2 b = some (.own y)) (ht : ∀ b xs, H1 b = some (.tup xs) → H2 b = some (.tup xs)) : ObjOk P w H2 h a o :=
  x.stay (fun _ _ _ q => q) (fun b q => ho b a q) ht
def noDT : HO → Bool
  | .dT _ => false
  | .frz _ u => noDT u
  | _ => true
theorem ObjOk.fgtN {P : Program} {w : World} {H1 H2 : Hp} {h : Heap} {a : Addr} : ∀ {o : HO}, ObjOk P w H1 h a o → (∀ b y, H1 b = some (.own y) → H2 b = some (.own y)) → noDT o = true → ObjOk P w H2 h a o
  | .lst _, x, _, _ => x
  | .tup _, x, _, _ => x
  | .dK _, x, _, _ => x
  | .dT _, _, _, h => by cases h
  | .set _ _, x, _, _ => x
  | .ins _ _ _, x, ho, _ => by obtain ⟨h1, h2⟩ := x; exact ⟨ho _ _ h1, h2⟩
  | .own _, x, _, _ => x
  | .xd _, x, _, _ => x
  | .rng _ _, x, _, _ => x
  | .frz _ u, x, ho, h => by obtain ⟨h1, h2⟩ := x; exact ⟨h1, ObjOk.fgtN h2 ho h⟩
  | .tbl _, x, _, _ => x
  | .met _ _, x, _, _ => x
  | .ext _, x, _, _ => x
structure Fg (H H1 H2 : Hp) : Prop where
  sub : ∀ b o, H2 b = some o → H1 b = some o
  old : ∀ b, H b ≠ none → H2 b = H1 b
  own : ∀ b y, H1 b = some (.own y) → H2 b = some (.own y)
  ndt : (∀ b xs, H1 b = some (.tup xs) → H2 b = some (.tup xs)) ∨ ∀ b o, H2 b = some o → noDT o = true
theorem Fg.refl (H H1 : Hp) : Fg H H1 H1 := ⟨fun _ _ h => h, fun _ _ => rfl, fun _ _ h => h, .inl fun _ _ h => h⟩
theorem HOk.fg {P : Program} {w : World} {H H1 H2 : Hp} {h : Heap} (x : HOk P w H1 h) (f : Fg H H1 H2) : HOk P w H2 h := fun a o e => by
  rcases f.ndt with t | t
  · exact ObjOk.fgtF (x a o (f.sub a o e)) f.own t
  · exact ObjOk.fgtN (x a o (f.sub a o e)) f.own (t a o e)
theorem Un.fg {fs ex : List Addr} {H H1 H2 : Hp} {h h' : Heap} (u : Un fs ex H H1 h h') (f : Fg H H1 H2) : Un fs ex H H2 h h' where
  keep := u.keep
  slot := u.slot
  free := fun b o q n hx => by
    have z := u.free b o q n hx
    cases e : H2 b with
    | none => rfl
    | some v => rw [f.sub b v e] at z; cases z
  there := u.there
  tups := fun b xs q => by rw [f.old b (by rw [q]; intro z; cases z)]; exact u.tups b xs q
  frzs := fun b o v q => by rw [f.old b (by rw [q]; intro z; cases z)]; exact u.frzs b o v q
  tbls := fun b ps q => by
    obtain ⟨m, e⟩ := u.tbls b ps q
    exact ⟨m, by rw [f.old b (by rw [q]; intro z; cases z)]; exact e⟩
def Told (H : Hp) (Q : VK) : VK := fun v H1 => ∃ H2, Fg H H1 H2 ∧ Q v H2

theorem fn_ofF {CX : CXT} {P : Program} {w : World} {K : PySem.W.Frag} {mg : Str → Option Value} {base : Heap} {k : Nat} {f : Addr} {name qual : Str} {params : Arguments} {body : List Stmt} {scope : Scope} {dV kV doc pm cdv ct oc : Value} {an od : Option Addr}
    {osl : Array (Option Value)} {N ps : List Str} {sp : Sp} (lk : K.lookup f = some ⟨oc, od, .func (PySem.W.fnOf name qual params body scope dV kV doc pm an cdv ct), osl⟩) (hcd : PySem.W.codeIn K cdv qual = true) (S : FnScope N ps scope)
    (len : ∀ vs H Q E, sp vs H Q E → vs.length = ps.length)
    (hbody : ∀ (A : Around) (outer : List Env) (s : Shared) (H : Hp) (vs : List V) (Q : VK) (E : XK), Room k (A.deeper (envOfC qual scope s.heap.objs.size f cdv)) → sp vs H Q E →
      ∃ t, PSs (cxOf CX P w K mg base N qual scope f cdv A outer s H E) body t ∧ t { nx := fun _ H' => Told H Q .non H', rt := Told H Q } (start N vs) H) :
    FnOk P w K mg base CX (k + 1) f (PySem.W.fnOf name qual params body scope dV kV doc pm an cdv ct) ps sp := by
  refine ⟨len, fun A outer s H args us vs Q E hr e0 hb r hsp => ?_⟩
  have hl := len _ _ _ _ hsp
  have KX : K.In s.heap := e0.mod.kin.keeps fun b o e => (e0.bs b o e).1
  have lim : s.heap.NoLimit := e0.mod.nolimit.keeps fun b o e => (e0.bs b o e).1
  have hkind : ∀ y ∈ ps.zip us, scope.names.lookup y.1 = some .local ∨ (scope.names.lookup y.1 = some .cell ∧ ((cellsFrom (s.heap.objs.size + 1) scope.names []).lookup y.1).isSome = true) := fun ⟨n, v⟩ hy => by
    rcases S.par n (List.of_mem_zip hy).1 with q | q
    · exact .inl q
    · exact .inr ⟨q, PySem.W.cellsFrom_some _ _ _ (.inl q)⟩
  refine codeAny_call_function hr.depth (KX _ _ lk) rfl S.co S.gen rfl (PySem.W.codeRec_of KX hcd) (hb _ _ _ _ ?_)
  refine wpAny_newFunctionEnv_cells S.kind hkind fun env he s1 x => ?_
  subst he
  refine ⟨lim.keeps x.toInCall.keep, codeAny_func ?_⟩
  obtain ⟨t, ht, hq⟩ := hbody A outer s H vs Q E (hr.deeper _) hsp
  have I : Inv (cxOf CX P w K mg base N qual scope f cdv A outer s H E) [] (start N vs) H s1 := inv_start S hr.hd e0 hl r x
  refine wpAny_mono (ht [] s1 (start N vs) H _ I hq) (fun fl s' hs => ?_) fun e s' hs => hs
  have fin : ∀ {σ' : L2.St} {H' : Hp} {v : V} {u : Value}, Inv (cxOf CX P w K mg base N qual scope f cdv A outer s H E) [] σ' H' s' → RelV v u → Told H Q v H' → CE outer P w H s Q u s' :=
    fun {σ' H' v u} J rv q => by
      obtain ⟨H2, fg, q⟩ := q
      exact ⟨v, H2, J.os, J.bare, Un.fg J.base fg, HOk.fg J.hok fg, rv, q⟩
  cases fl with
  | ret u =>
    obtain ⟨v, σ', H', J, rv, q⟩ := hs
    exact fin J rv q
  | next =>
    obtain ⟨σ', H', J, q⟩ := hs
    exact fin (v := V.non) (u := Value.none) J rfl q
  | brk =>
    obtain ⟨_, _, _, q⟩ := hs
    exact False.elim q
  | cont =>
    obtain ⟨_, _, _, q⟩ := hs
    exact False.elim q

section
variable {P : Program} {w : World} {K : PySem.W.Frag} {mg : Str → Option Value} {base : Heap}
structure Fn (K : PySem.W.Frag) (mg : Str → Option Value) (x : Str) (st : Stmt) (ps : List Str) : Prop where
  ex : ∃ f fd, Fun K x x st f fd ∧ mg x = some (.ref f) ∧ Binds K fd ps []
structure Cal (P : Program) (w : World) (K : PySem.W.Frag) (mg : Str → Option Value) (base : Heap) (x : Str) (k : Nat) (ps : List Str) (sp : Sp) : Prop where
  ex : ∃ f fd, FnOk P w K mg base CX0 k f fd ps sp ∧ mg x = some (.ref f) ∧ PySem.W.keepIn K (.ref f) = true ∧ Binds K fd ps []
theorem Fn.cal {x : Str} {st : Stmt} {N ps : List Str} {k : Nat} {sp : Sp} (F : Fn K mg x st ps) (S : FnScope N ps (defScope st)) (len : ∀ vs H Q E, sp vs H Q E → vs.length = ps.length)
    (hbody : ∀ (f : Addr) (cdv : Value) (A : Around) (outer : List Env) (s : Shared) (H : Hp) (vs : List V) (Q : VK) (E : XK), Room k (A.deeper (envOfC x (defScope st) s.heap.objs.size f cdv)) → sp vs H Q E →
      ∃ t, PSs (cxOf CX0 P w K mg base N x (defScope st) f cdv A outer s H E).nox (defBody st) t ∧ t { nx := fun _ H' => Told H Q .non H', rt := Told H Q } (start N vs) H) : Cal P w K mg base x (k + 1) ps sp := by
  obtain ⟨f, fd, F, hm, hb⟩ := F.ex
  have kp := F.kp
  obtain ⟨oc, od, kV, doc, pm, an, cdv, ct, osl, rfl, lk, hcd⟩ := F.ex
  refine ⟨f, _, fn_ofF lk hcd S len fun A outer s H vs Q E hr hsp => ?_, hm, kp, hb⟩
  obtain ⟨t, h, q⟩ := hbody f cdv A outer s H vs Q E hr hsp
  exact ⟨t, h.nox, q⟩
theorem Cal.mono {x : Str} {ps : List Str} {j k : Nat} {sp : Sp} (C : Cal P w K mg base x j ps sp) (h : j ≤ k) : Cal P w K mg base x k ps sp := by
  obtain ⟨f, fd, F, r⟩ := C.ex
  exact ⟨f, fd, F.mono h, r⟩
theorem Cal.imp {x : Str} {ps : List Str} {k : Nat} {sp sp' : Sp} (C : Cal P w K mg base x k ps sp) (h : ∀ vs H Q E, sp' vs H Q E → sp vs H Q E) : Cal P w K mg base x k ps sp' := by
  obtain ⟨f, fd, F, r⟩ := C.ex
  exact ⟨f, fd, F.imp h, r⟩
theorem fn_mk {x : Str} {st : Stmt} {ps : List Str} {f : Addr} {oc : Value} {od an : Option Addr} {osl : Array (Option Value)} {kV doc pm cdv ct : Value} {h : Heap} (X : K.In h) (G : h.Ns mainGlobals mg)
    (a : PySem.W.nsIn K mainGlobals x = some (some (.ref f))) (l : K.lookup f = some ⟨oc, od, .func (PySem.W.fnOf x x (defArgs st) (defBody st) (defScope st) .none kV doc pm an cdv ct), osl⟩)
    (c : PySem.W.codeIn K cdv x = true) (k : PySem.W.keepIn K (.ref f) = true)
    (b : ∀ (kV doc pm : Value) (an : Option Addr) (cdv ct : Value) (us : List Value), us.length = ps.length → bindArgs (PySem.W.fnOf x x (defArgs st) (defBody st) (defScope st) .none kV doc pm an cdv ct) ⟨us, []⟩ = pure (ps.zip us)) : Fn K mg x st ps :=
  have F := fun_mk (st := st) l c k
  ⟨f, _, F, PySem.W.mg_of X G a, F.binds b⟩
end
section
variable {X : Cx} {x : Str} {k : Nat} {ps : List Str} {sp : Sp} {p pos : Pos} {e : Expr} {es : List Expr} {t : TA}
theorem pe_cal (C : Cal X.prog X.w X.K X.mg X.base x k ps sp) (hr : Room k X.A) (hg : Gl X x) (ha : PA X (e :: es) t) (hdb : (x == ("__debug__" : Str)) = false := by decide)
    (he : starEach (e :: es) X.env = (false, eval e X.env) :: starEach es X.env := by rfl) (hpl : (backTo pos (starEach es X.env)).any (·.1) = false := by rfl) :
    PE X (.Call (.Name x p) (e :: es) [] pos) (tCall sp [] E0 t) := by
  obtain ⟨f, fd, F, hm, hk, hb⟩ := C.ex
  exact pe_call F hr hg hm hk hb .nil pass0 ha hdb he hpl
end
end M

namespace M
open PySem PySem.Spec PyProof.Rows L2
section
variable {X : Cx}

def catO : Option HO → Option HO → (HO → Prop) → Prop
  | some (.lst xs), some (.lst ys), R => xs.length + ys.length ≤ sizeLine ∧ R (.lst (xs ++ ys))
  | _, _, _ => False
def rAddX : R2 := fun x y H Q => match x, y with
  | .int i, .int j => Q (.int (i + j)) H
  | .str a, .str b => a.length + b.length ≤ sizeLine ∧ Q (.str (a ++ b)) H
  | .ref a, .ref b => catO (H a) (H b) fun o => ∀ p, H p = none → Q (.ref p) (upd H p o)
  | _, _ => False
theorem op_addX : OpR X (binaryOp .Add) rAddX := by
  intro pins s σ H x y v u Q I rx ry h
  unfold rAddX at h
  split at h
  · exact op_add pins s σ H _ _ v u Q I rx ry ⟨_, _, rfl, rfl, h⟩
  · exact op_add_str pins s σ H _ _ v u Q I rx ry ⟨_, _, rfl, rfl, h.1, h.2⟩
  · rename_i a b
    unfold catO at h
    split at h
    · rename_i h1 h2
      exact op_cat pins s σ H _ _ v u Q I rx ry ⟨a, b, _, _, rfl, rfl, h1, h2, h.1, fun p hp => h.2 p hp⟩
    · exact h.elim
  · exact h.elim
def repO : Option HO → Int → (HO → Prop) → Prop
  | some (.lst xs), k, R => -(2 ^ 63) ≤ k ∧ k < 2 ^ 63 ∧ xs.length * k.toNat ≤ sizeLine ∧ R (.lst (List.replicate k.toNat xs).flatten)
  | _, _, _ => False
def CDivL (_ j : Int) : Prop := j ≠ 0 ∧ j.natAbs.log2 < 9000
theorem op_fdivL : OpR X (binaryOp .FloorDiv) (rI CDivL fun i j => .int (i.fdiv j)) := opI fun _ _ _ _ _ _ _ hc q => floordiv_int hc.1 q (.inl (PyProof.noPylong_of_log2 hc.2))
theorem op_mulL : OpR X (binaryOp .Mult) (rI IntMulOk fun i j => .int (i * j)) := opI fun _ _ _ _ _ _ _ hc q => mul_int q hc
def ixO : Option HO → V → (V → Prop) → Prop
  | some (.lst xs), .int i, R => ∃ v, atI xs i = some v ∧ R v
  | some (.tup xs), .int i, R => ∃ v, atI xs i = some v ∧ R v
  | some (.dK kvs), .str k, R => ∃ v, valV kvs (Sum.inr k) = some v ∧ R v
  | _, _, _ => False
def rIxX : R2 := fun x y H Q => match x, y with
  | .str z, .int i => z.length ≤ sizeLine ∧ ∃ c, atI z.cps.toList i = some c ∧ Q (.str ⟨#[c]⟩) H
  | .ref p, y => ixO (H p) y fun v => Q v H
  | _, _ => False
theorem pe_ixX {a b : Expr} {ta tb : TE} {pos : Pos} (hu : X.A.units + 1 < cLine) (ha : PE X a ta) (hb : PE X b tb) (hs : NoSl b) : PE X (.Subscript a b pos) (tOp rIxX ta tb) := by
  have hD : IxR X (fun x y H Q => ∃ a v, x = .ref a ∧ DGet H a y (some v) ∧ Q v H) := by
    intro value slice pins s σ H x y v u Q I rx ry h hs
    obtain ⟨a, z, rfl, g, q⟩ := h
    cases rx
    exact tail_any (dict_typeIs I g) PySem.F.slot_dict_getitem.lookup (d_getItem hu I g ry fun w' s3 I3 rw' => ⟨z, H, I3, rw', q⟩) hs
  have hX : IxR X rIxX := by
    intro value slice pins s σ H x y v u Q I rx ry h hs
    unfold rIxX at h
    split at h
    · obtain ⟨h1, c, h2, h3⟩ := h
      exact ix_str value slice pins s σ H _ _ v u Q I rx ry ⟨_, _, c, rfl, rfl, h1, h2, h3⟩ hs
    · rename_i p
      unfold ixO at h
      split at h
      · rename_i e
        obtain ⟨w', h1, h2⟩ := h
        exact ix_list value slice pins s σ H _ _ v u Q I rx ry ⟨_, _, _, w', rfl, rfl, SqL.of e, h1, h2⟩ hs
      · rename_i e
        obtain ⟨w', h1, h2⟩ := h
        exact ix_tup value slice pins s σ H _ _ v u Q I rx ry ⟨_, _, _, w', rfl, rfl, SqT.of e, h1, h2⟩ hs
      · rename_i e
        obtain ⟨w', h1, h2⟩ := h
        refine hD value slice pins s σ H _ _ v u Q I rx ry ⟨_, w', rfl, ?_, h2⟩ hs
        rw [← h1]
        exact DGet.k (k := Sum.inr _) e
      · exact h.elim
    · exact h.elim
  intro pins s σ H Q I h
  exact Subscript_ (binT ha hb I h fun v u s2 x y H2 I2 rx ry q => hX a b pins s2 σ H2 x y v u Q I2 rx ry q (hs _ _))

def setO : Option HO → V → V → (HO → Prop) → Prop
  | some (.lst xs), .int k, v, R => ∃ j, ixN xs.length k = some j ∧ R (.lst (xs.set j v))
  | some (.dK kvs), .str k, v, R => kvs.length < sizeLine ∧ R (.dK (putK kvs (Sum.inr k) v))
  | _, _, _, _ => False
def setX : TSet := fun o i v H Q => match o with
  | .ref p => setO (H p) i v fun ho => Q (upd H p ho)
  | _ => False
theorem set_X (hu : X.A.units + 1 < cLine) : PSet X setX := by
  intro pins s σ H o i v ov iv u Q I ro ri rv h
  unfold setX at h
  split at h
  · rename_i p
    unfold setO at h
    split at h
    · rename_i e
      obtain ⟨j, h1, h2⟩ := h
      exact set_list pins s σ H _ _ _ ov iv u Q I ro ri rv ⟨_, _, _, j, rfl, rfl, e, h1, h2⟩
    · rename_i e
      obtain rfl : ov = Value.ref p := ro
      exact d_setItem hu I (DPut.k (k := Sum.inr _) e h.1) ri rv fun s' I' => ⟨_, I', h.2⟩
    · exact h.elim
  · exact h.elim

def gTupO : Option HO → Nat → (List V → Prop) → Prop
  | some (.tup xs), n, R => xs.length = n ∧ R xs
  | _, _, _ => False
def gTupX (n : Nat) (t : TGs) : TG := fun v σ H Q => match v with
  | .ref a => gTupO (H a) n fun xs => t xs σ H Q
  | _ => False
theorem PG.imp {tg : Expr} {g g' : TG} (h : PG X tg g) (hi : ∀ v σ H Q, g' v σ H Q → g v σ H Q) : PG X tg g' := fun pins s σ H v u Q I r q => h pins s σ H v u Q I r (hi _ _ _ _ q)
theorem PE.imp {e : Expr} {t t' : TE} (h : PE X e t) (hi : ∀ σ H Q, t' σ H Q → t σ H Q) : PE X e t' := fun pins s σ H Q I q => h pins s σ H Q I (hi _ _ _ q)
theorem pg_tupX {es : List Expr} {k : Nat} {t : TGs} {n : Nat} {pos : Pos} (hc : X.calm = true) (h : PGs X es t)
    (hn : (assignEach es X.env).length = n := by rfl) (hst : (assignEach es X.env).findIdx? (·.1) = none := by rfl) : PG X (.Tuple es k pos) (gTupX n t) :=
  PG.imp (pg_tup hc h hn hst) fun v σ H Q q => by
    unfold gTupX at q
    split at q
    · rename_i a
      unfold gTupO at q
      split at q
      · rename_i e
        exact ⟨a, _, rfl, SqT.of e, q.1, q.2⟩
      · exact q.elim
    · exact q.elim

theorem CallR.imp {f : Value} {r r' : List V → Hp → VK → Prop} (h : CallR X f r) (hi : ∀ xs H Q, r' xs H Q → r xs H Q) : CallR X f r' := fun pins s σ H xs us Q I rv q => h pins s σ H xs us Q I rv (hi _ _ _ q)
theorem CallR.or {f : Value} {r r' : List V → Hp → VK → Prop} (h : CallR X f r) (h' : CallR X f r') : CallR X f (fun xs H Q => r xs H Q ∨ r' xs H Q) := fun pins s σ H xs us Q I rv q => by
  rcases q with q | q
  · exact h pins s σ H xs us Q I rv q
  · exact h' pins s σ H xs us Q I rv q
def lenO : Option HO → (Nat → Prop) → Prop
  | some (.lst xs), R => R xs.length
  | some (.tup xs), R => R xs.length
  | some (.dK kvs), R => R kvs.length
  | _, _ => False
def lenX : List V → Hp → VK → Prop := fun xs H Q => match xs with
  | [.str z] => z.length ≤ sizeLine ∧ Q (.int z.length) H
  | [.ref p] => lenO (H p) fun n => Q (.int n) H
  | _ => False
theorem call_lenX : CallR X (.builtin "len") lenX := CallR.imp (CallR.or call_len call_lenD) fun xs H Q h => by
  unfold lenX at h
  split at h
  · exact .inl ⟨_, _, rfl, ⟨h.1, rfl⟩, h.2⟩
  · unfold lenO at h
    split at h
    · rename_i e
      exact .inl ⟨_, _, rfl, .inl ⟨_, SqL.of e, rfl⟩, h⟩
    · rename_i e
      exact .inl ⟨_, _, rfl, .inr ⟨_, SqT.of e, rfl⟩, h⟩
    · rename_i e
      exact .inr ⟨_, _, rfl, e, h⟩
    · exact h.elim
  · exact h.elim
def absX : List V → Hp → VK → Prop := fun xs H Q => match xs with
  | [.int i] => Q (.int (i.natAbs : Int)) H
  | _ => False
theorem call_absX : CallR X (.builtin "abs") absX := CallR.imp call_abs fun xs H Q h => by
  unfold absX at h
  split at h
  · rename_i i
    refine ⟨i, rfl, ?_⟩
    have e : (if i < 0 then -i else i) = (i.natAbs : Int) := by split <;> omega
    rw [e]; exact h
  · exact h.elim
def maxX : List V → Hp → VK → Prop := fun xs H Q => match xs with
  | [.int i, .int j] => Q (.int (if j > i then j else i)) H
  | _ => False
def minX : List V → Hp → VK → Prop := fun xs H Q => match xs with
  | [.int i, .int j] => Q (.int (if j < i then j else i)) H
  | _ => False
def intX : List V → Hp → VK → Prop := fun xs H Q => match xs with
  | [.int i] => Q (.int i) H
  | [.bl k] => Q (.int (if k then 1 else 0)) H
  | [.str a] => ∃ n, PySem.intText? a = some n ∧ a.length ≤ 640 ∧ Q (.int n) H
  | _ => False
theorem call_intX : CallR X (.type "int") intX := CallR.imp (CallR.or call_int1 call_int_str) fun xs H Q h => by
  unfold intX at h
  split at h
  · exact .inl (.inl ⟨_, rfl, h⟩)
  · exact .inl (.inr ⟨_, rfl, h⟩)
  · obtain ⟨n, h1, h2, h3⟩ := h
    exact .inr ⟨_, n, rfl, h1, h2, h3⟩
  · exact h.elim
def listO : Option HO → (List V → Prop) → Prop
  | some (.lst xs), R => R xs
  | some (.tup xs), R => R xs
  | _, _ => False
def listX : List V → Hp → VK → Prop := fun xs H Q => match xs with
  | [.ref p] => listO (H p) fun ys => ∀ l, H l = none → Q (.ref l) (upd H l (.lst ys))
  | _ => False
theorem call_listX : CallR X (.type "list") listX := CallR.imp call_list_of fun xs H Q h => by
  unfold listX at h
  split at h
  · unfold listO at h
    split at h
    · rename_i e
      exact ⟨_, _, rfl, .inl (SqL.of e), h⟩
    · rename_i e
      exact ⟨_, _, rfl, .inr (SqT.of e), h⟩
    · exact h.elim
  · exact h.elim
def divmodX : List V → Hp → VK → Prop := fun xs H Q => match xs with
  | [.int i, .int j] => CDivL i j ∧ ∀ p, H p = none → Q (.ref p) (upd H p (.tup [.int (i.fdiv j), .int (i.fmod j)]))
  | _ => False
theorem call_divmodX : CallR X (.builtin "divmod") divmodX := by
  intro pins s σ H xs us Q I r h
  unfold divmodX at h
  split at h
  · rename_i i j
    obtain ⟨⟨h1, h2⟩, q⟩ := h
    obtain ⟨u, w', rfl, ⟨t, rfl⟩, ⟨t', rfl⟩⟩ := vals2 r
    refine divmod_int h1 ?_ (.inl (PyProof.noPylong_of_log2 h2))
    have hn : H s.heap.objs.size = none := I.hok.fresh (Nat.le_refl _)
    refine ⟨.ref s.heap.objs.size, _, ?_, rfl, q _ hn⟩
    refine I.laid (fun b o e => Heap.get?_push_of_some _ e) (Nat.le_refl _) ⟨by simp only [List.length_cons, List.length_nil]; rw [sizeLine_eq]; decide, [.int (i.fdiv j) s.toks, .int (i.fmod j) (s.toks + 1)], .cons ⟨_, rfl⟩ (.cons ⟨_, rfl⟩ .nil), ?_⟩
    exact ⟨_, Heap.get?_push_size _ rfl, rfl, _, rfl⟩
  · exact h.elim
def allX : List V → Hp → VK → Prop := fun xs H Q => match xs with
  | [.ref p] => ∃ bs : List Bool, H p = some (.lst (bs.map V.bl)) ∧ Q (.bl (bs.all id)) H
  | _ => False
theorem call_allX (hc : X.calm = true) : CallR X (.builtin "all") allX := CallR.imp (cr_all hc) fun xs H Q h => by
  unfold allX at h
  split at h
  · obtain ⟨bs, h1, h2⟩ := h
    exact ⟨_, bs, rfl, SqL.of h1, h2⟩
  · exact h.elim

def tyO : Option HO → Option String
  | some (.lst _) => some "list"
  | some (.frz _ (.lst _)) => some "list"
  | some (.tup _) => some "tuple"
  | some (.dK _) => some "dict"
  | _ => none
def tyN (H : Hp) : V → Option String
  | .non => some "NoneType"
  | .bl _ => some "bool"
  | .int _ => some "int"
  | .str _ => some "str"
  | .ref a => tyO (H a)
  | _ => none
def askd : List String := ["bool", "int", "str", "list", "tuple", "dict", "NoneType"]
def isTab (t T : String) : Bool := t == T || (t == "bool" && T == "int")
theorem kit_tab (K : PySem.W.Frag) : ∀ t ∈ askd, ∀ T ∈ askd, PySem.W.kitOne K (.type t) (.type T) = some (isTab t T) := by
  intro t ht T hT
  simp only [askd, List.mem_cons, List.not_mem_nil, or_false] at ht hT
  rcases ht with rfl | rfl | rfl | rfl | rfl | rfl | rfl <;> rcases hT with rfl | rfl | rfl | rfl | rfl | rfl | rfl <;> with_unfolding_all rfl
theorem tyN_of {K : PySem.W.Frag} {H : Hp} {x : V} {t : String} (h : tyN H x = some t) : TyOf K H x (.type t) ∧ t ∈ askd := by
  cases x with
  | non => cases h; exact ⟨.non, by decide⟩
  | bl b => cases h; exact ⟨.bl b, by decide⟩
  | int i => cases h; exact ⟨.int i, by decide⟩
  | str z => cases h; exact ⟨.str z, by decide⟩
  | ref a =>
    have h : tyO (H a) = some t := h
    unfold tyO at h
    split at h
    · rename_i e; cases h; exact ⟨.lst e, by decide⟩
    · rename_i e; cases h; exact ⟨.frz e, by decide⟩
    · rename_i e; cases h; exact ⟨.tup e, by decide⟩
    · rename_i e; cases h; exact ⟨.dK e, by decide⟩
    · cases h
  | _ => cases h
def isiX : List V → Hp → VK → Prop := fun xs H Q => match xs with
  | [x, .ty T] => T ∈ askd ∧ ∃ t, tyN H x = some t ∧ Q (.bl (isTab t T)) H
  | [x, .ref p] => ∃ Ts : List String, (∀ T ∈ Ts, T ∈ askd) ∧ Ts.length ≤ 8 ∧ H p = some (.tup (Ts.map V.ty)) ∧ ∃ t, tyN H x = some t ∧ Q (.bl (Ts.any fun T => isTab t T)) H
  | _ => False
theorem kit_any (K : PySem.W.Frag) {t : String} (ht : t ∈ askd) : ∀ {Ts : List String}, (∀ T ∈ Ts, T ∈ askd) → PySem.W.kitAny K (.type t) (Ts.map Value.type) = some (Ts.any fun T => isTab t T)
  | [], _ => rfl
  | T :: Ts, h => by
    have e := kit_tab K t ht T (h T (by simp))
    have ih := kit_any K ht (Ts := Ts) fun T' hT => h T' (by simp [hT])
    rw [List.map_cons, PySem.W.kitAny, e, List.any_cons]
    cases isTab t T with
    | true => rfl
    | false => simpa using ih
theorem vals_ty : ∀ {Ts : List String} {us : List Value}, Vals (Ts.map V.ty) us → us = Ts.map Value.type
  | [], _, .nil => rfl
  | T :: Ts, _, .cons r t => by
    have e : _ = Value.type T := r
    rw [List.map_cons, e, vals_ty t]
theorem call_isiX : CallR X (.builtin "isinstance") isiX := by
  intro pins s σ H xs us Q I r h
  unfold isiX at h
  split at h
  · rename_i x T
    obtain ⟨hT, t, ht, q⟩ := h
    obtain ⟨u, c, rfl, rx, rc⟩ := vals2 r
    obtain rfl : c = Value.type T := rc
    obtain ⟨ty, hm⟩ := tyN_of (K := X.K) ht
    exact isinst_ok I rx ty (kit_tab X.K t hm T hT) fun tk => ⟨.bl _, H, I.tok _, rfl, q⟩
  · rename_i x p
    obtain ⟨Ts, hT, hl, hp, t, ht, q⟩ := h
    obtain ⟨u, c, rfl, rx, rc⟩ := vals2 r
    obtain rfl : c = Value.ref p := rc
    obtain ⟨ty, hm⟩ := tyN_of (K := X.K) ht
    obtain ⟨_, its, rv, ob, h1, h2, n, h3⟩ := I.hok p _ hp
    have ei := vals_ty rv
    subst ei
    have hk := kit_any X.K hm hT
    obtain ⟨oc, od, odt, osl⟩ := ob
    cases h2
    have h3' : odt = .seq (Ts.map Value.type).toArray n := h3
    subst h3'
    have fin : ∀ tk, EP X pins σ Q (Value.bool (Ts.any fun T => isTab t T)) { s with toks := tk } := fun tk => ⟨.bl _, H, I.tok _, rfl, q⟩
    cases ty with
    | non => cases (show u = Value.none from rx); exact PySem.W.kia_tup PySem.W.kitx_none I.kIn True.intro h1 hk (fun z => nomatch z) fin
    | bl y => cases (show u = Value.bool y from rx); exact PySem.W.kia_tup PySem.W.kitx_bool I.kIn True.intro h1 hk (fun z => nomatch z) fin
    | int i => obtain ⟨t, q⟩ := (show ∃ t, u = Value.int i t from rx); cases q; exact PySem.W.kia_tup PySem.W.kitx_int I.kIn True.intro h1 hk (fun z => nomatch z) fin
    | str y => obtain ⟨t, q⟩ := (show ∃ t, u = Value.str y t from rx); cases q; exact PySem.W.kia_tup PySem.W.kitx_str I.kIn True.intro h1 hk (fun z => nomatch z) fin
    | flt y => simp [askd] at hm
    | @lst a xs ea =>
      cases (show u = Value.ref a from rx)
      obtain ⟨_, _, n, _, h4⟩ := (show ObjOk X.prog X.w H s.heap a (.lst xs) from I.hok a _ ea)
      exact PySem.W.kia_tup PySem.W.kitx_list I.kIn ⟨_, h4, rfl⟩ h1 hk (fun z => nomatch z) fin
    | @frz a ob xs ea =>
      cases (show u = Value.ref a from rx)
      obtain ⟨_, _, _, n, _, h4⟩ := (show ObjOk X.prog X.w H s.heap a (.frz ob (.lst xs)) from I.hok a _ ea)
      exact PySem.W.kia_tup PySem.W.kitx_list I.kIn ⟨_, h4, rfl⟩ h1 hk (fun z => nomatch z) fin
    | @tup a xs ea =>
      cases (show u = Value.ref a from rx)
      obtain ⟨_, _, _, p⟩ := (show ObjOk X.prog X.w H s.heap a (.tup xs) from I.hok a _ ea)
      obtain ⟨o, h4, h5, _⟩ := p
      exact PySem.W.kia_tup PySem.W.kitx_tuple I.kIn ⟨o, h4, h5⟩ h1 hk (fun z => nomatch z) fin
    | @dK a kvs ea =>
      cases (show u = Value.ref a from rx)
      obtain ⟨_, _, vs, _, p⟩ := (show ObjOk X.prog X.w H s.heap a (.dK kvs) from I.hok a _ ea)
      obtain ⟨o, es, ep, h4, h5, _⟩ := p
      exact PySem.W.kia_tup PySem.W.kitx_dict I.kIn ⟨o, h4, h5.1⟩ h1 hk (fun z => nomatch z) fin
    | @dT a kvs ea =>
      cases (show u = Value.ref a from rx)
      obtain ⟨_, _, xs, _, o, es, ep, h4, h5, _⟩ := (show ObjOk X.prog X.w H s.heap a (.dT kvs) from I.hok a _ ea)
      exact PySem.W.kia_tup PySem.W.kitx_dict I.kIn ⟨o, h4, h5.1⟩ h1 hk (fun z => nomatch z) fin
  · exact h.elim

def rEqX (K : PySem.W.Frag) : R2 := fun x y H Q => match x, y with
  | .int i, .int j => Q (.bl (decide (i = j))) H
  | .str i, .str j => Q (.bl (decide (i = j))) H
  | .bl i, .bl j => Q (.bl (decide (i = j))) H
  | .ref a, .ref b => ∃ d e, Dp K H (.ref a) d ∧ Dp K H (.ref b) e ∧ SeqAt.shaped d = true ∧ SeqAt.shaped e = true ∧ Q (.bl (PyData.eqv d e)) H
  | _, _ => False
theorem op_eqX (hu : X.A.units + 64 < cLine) : OpR X (compareOp .Eq) (rEqX X.K) := by
  intro pins s σ H x y v u Q I rx ry h
  unfold rEqX at h
  split at h
  · exact op_eq pins s σ H _ _ v u Q I rx ry ⟨rfl, by simpa using h⟩
  · exact op_eq pins s σ H _ _ v u Q I rx ry ⟨rfl, by simpa using h⟩
  · exact op_eq pins s σ H _ _ v u Q I rx ry ⟨rfl, by simpa using h⟩
  · exact op_eqD hu pins s σ H _ _ v u Q I rx ry h
  · exact h.elim
def rNeX (K : PySem.W.Frag) : R2 := fun x y H Q => match x, y with
  | .int i, .int j => Q (.bl (!decide (i = j))) H
  | .str i, .str j => Q (.bl (!decide (i = j))) H
  | .bl i, .bl j => Q (.bl (!decide (i = j))) H
  | .ref a, .ref b => ∃ d e, Dp K H (.ref a) d ∧ Dp K H (.ref b) e ∧ SeqAt.shaped d = true ∧ SeqAt.shaped e = true ∧ Q (.bl (!PyData.eqv d e)) H
  | _, _ => False
theorem op_neX (hu : X.A.units + 64 < cLine) : OpR X (compareOp .NotEq) (rNeX X.K) := by
  intro pins s σ H x y v u Q I rx ry h
  unfold rNeX at h
  split at h
  · exact op_ne pins s σ H _ _ v u Q I rx ry ⟨rfl, by simpa using h⟩
  · exact op_ne pins s σ H _ _ v u Q I rx ry ⟨rfl, by simpa using h⟩
  · exact op_ne pins s σ H _ _ v u Q I rx ry ⟨rfl, by simpa using h⟩
  · exact op_neD hu pins s σ H _ _ v u Q I rx ry h
  · exact h.elim
end
end M

namespace M
open PySem PySem.Spec PyProof.Rows L2

inductive Src where
  | L (a : Addr) | T (a : Addr) | S (x : Str) (t : Tok) (w : Bool)
namespace Src
def ty (w : Bool) : String := if w then "str_iterator" else "str_ascii_iterator"
def itr : Src → Addr → Nat → Heap → Prop
  | .L a, i, k, h => h.IsListIter i a k
  | .T a, i, k, h => h.IsTupleIter i a k
  | .S x t w, i, k, h => h.IsStrIter i (ty w) x t k
def itm : Src → Heap → Nat → (Value → Prop) → Prop
  | .L a, h, k, p => ∃ xs x, h.IsList a xs ∧ xs[k]? = some x ∧ p x
  | .T a, h, k, p => ∃ xs x, h.IsTuple a xs ∧ xs[k]? = some x ∧ p x
  | .S x _ _, _, k, p => ∃ c, x.cps[k]? = some c ∧ ∀ u, p (.str ⟨#[c]⟩ u)
def fin : Src → Heap → Nat → Prop
  | .L a, h, k => ∃ xs, h.IsList a xs ∧ xs[k]? = none
  | .T a, h, k => ∃ xs, h.IsTuple a xs ∧ xs[k]? = none
  | .S x _ _, _, k => x.cps[k]? = none
def lies : Src → List Addr
  | .L a => [a]
  | .T a => [a]
  | .S _ _ _ => []
theorem itr.obj {S : Src} {i : Addr} {k : Nat} {h : Heap} (x : S.itr i k h) : ∃ o, h.get? i = some o ∧ ∀ v, o.data ≠ .cell v := by
  cases S with
  | L a => obtain ⟨o, e, _, d⟩ := x; exact ⟨o, e, fun v q => by rw [d] at q; cases q⟩
  | T a => obtain ⟨o, e, _, d⟩ := x; exact ⟨o, e, fun v q => by rw [d] at q; cases q⟩
  | S y t w => obtain ⟨o, e, _, d⟩ := x; exact ⟨o, e, fun v q => by rw [d] at q; cases q⟩
theorem itr.at {S : Src} {i : Addr} {k : Nat} {h h' : Heap} (x : S.itr i k h) (e : ∀ o, h.get? i = some o → h'.get? i = some o) : S.itr i k h' := by
  cases S with
  | L a => obtain ⟨o, ho, r⟩ := x; exact ⟨o, e o ho, r⟩
  | T a => obtain ⟨o, ho, r⟩ := x; exact ⟨o, e o ho, r⟩
  | S y t w => obtain ⟨o, ho, r⟩ := x; exact ⟨o, e o ho, r⟩
theorem itm.at {S : Src} {k : Nat} {h h' : Heap} {p : Value → Prop} (x : S.itm h k p) (e : ∀ b ∈ S.lies, ∀ o, h.get? b = some o → h'.get? b = some o) : S.itm h' k p := by
  cases S with
  | L a => obtain ⟨xs, v, ⟨o, ho, r⟩, q⟩ := x; exact ⟨xs, v, ⟨o, e a (by simp [lies]) o ho, r⟩, q⟩
  | T a => obtain ⟨xs, v, ⟨o, ho, r⟩, q⟩ := x; exact ⟨xs, v, ⟨o, e a (by simp [lies]) o ho, r⟩, q⟩
  | S y t w => exact x
theorem fin.at {S : Src} {k : Nat} {h h' : Heap} (x : S.fin h k) (e : ∀ b ∈ S.lies, ∀ o, h.get? b = some o → h'.get? b = some o) : S.fin h' k := by
  cases S with
  | L a => obtain ⟨xs, ⟨o, ho, r⟩, q⟩ := x; exact ⟨xs, ⟨o, e a (by simp [lies]) o ho, r⟩, q⟩
  | T a => obtain ⟨xs, ⟨o, ho, r⟩, q⟩ := x; exact ⟨xs, ⟨o, e a (by simp [lies]) o ho, r⟩, q⟩
  | S y t w => exact x
end Src
section
variable {prog : Program} {w : World} {A : Around} {E : Value → Shared → Prop} {s : Shared}
theorem nextOf_tuple_item {it t : Addr} {i : Nat} {items} {x : Value} {Q : Value → Shared → Prop} (hit : s.heap.IsTupleIter it t i)
    (ht : s.heap.IsTuple t items) (hx : items[i]? = some x)
    (hQ : ∀ h', h'.IsTupleIter it t (i + 1) → Heap.SameBut it s.heap h' → Q x { s with heap := h' }) :
    wpAny (model prog w) A (Builtin.SmallTypes.nextOf (.ref it)) Q E s := by
  obtain ⟨o, ho, hc, hd⟩ := id hit
  obtain ⟨ol, hol, _, nl, hdl⟩ := ht
  unfold Builtin.SmallTypes.nextOf
  refine wpAny_bind (wpAny_callSpecial?_slot (name := Str.ofString "__next__") hit.typeIs F.slot_tuple_iterator_next
    (wpAny_call_entry F.slot_tuple_iterator_next hit.typeIs F.entry_tuple_iterator_next ?_ (F.args_tuple_iterator_next_1 _)))
  show wpAny _ _ (field (.ref it) 0 >>= _) _ _ s
  refine wpAny_bind (wpAny_field ho hd (x := .ref t) rfl ?_)
  show wpAny _ _ (if (Value.ref t == Value.none) = true then _ else _) _ _ s
  rw [if_neg (show ¬ ((Value.ref t == Value.none) = true) from Bool.false_ne_true)]
  show wpAny _ _ (field (.ref it) 1 >>= _) _ _ s
  refine wpAny_bind (wpAny_field ho hd (x := .int i 0) rfl ?_)
  show wpAny _ _ (seqItems? (.ref t) >>= _) _ _ s
  refine wpAny_bind (wpAny_seqItems hol hdl ?_)
  simp only [Int.toNat_natCast, hx]
  refine wpAny_bind (wpAny_setField ho hd (by simp) (wpAny_pure ⟨x, rfl, wpAny_pure (hQ _ ?_ (Heap.SameBut.update ..))⟩))
  exact ⟨_, Heap.get?_update_self _ ho (Obj.isFreed_of_fields (Obj.data_mapFields hd _)), (Obj.cls_mapFields ..).trans hc, by
    rw [Obj.data_mapFields hd]; simp [rawInt]⟩
theorem nextOf_tuple_end {it t : Addr} {i : Nat} {items} {Q : Value → Shared → Prop} (hh : A.handled = none)
    (hit : s.heap.IsTupleIter it t i) (ht : s.heap.IsTuple t items) (hx : items[i]? = none)
    (hE : ∀ h' e, Heap.ExtBut it s.heap h' → (∃ o, h'.get? e = some o ∧ o.cls = .type "StopIteration") → E (.ref e) { s with heap := h' }) :
    wpAny (model prog w) A (Builtin.SmallTypes.nextOf (.ref it)) Q E s := by
  obtain ⟨o, ho, hc, hd⟩ := id hit
  obtain ⟨ol, hol, _, nl, hdl⟩ := ht
  unfold Builtin.SmallTypes.nextOf
  refine wpAny_bind (wpAny_callSpecial?_slot (name := Str.ofString "__next__") hit.typeIs F.slot_tuple_iterator_next
    (wpAny_call_entry F.slot_tuple_iterator_next hit.typeIs F.entry_tuple_iterator_next ?_ (F.args_tuple_iterator_next_1 _)))
  show wpAny _ _ (field (.ref it) 0 >>= _) _ _ s
  refine wpAny_bind (wpAny_field ho hd (x := .ref t) rfl ?_)
  show wpAny _ _ (if (Value.ref t == Value.none) = true then _ else _) _ _ s
  rw [if_neg (show ¬ ((Value.ref t == Value.none) = true) from Bool.false_ne_true)]
  show wpAny _ _ (field (.ref it) 1 >>= _) _ _ s
  refine wpAny_bind (wpAny_field ho hd (x := .int i 0) rfl ?_)
  show wpAny _ _ (seqItems? (.ref t) >>= _) _ _ s
  refine wpAny_bind (wpAny_seqItems hol hdl ?_)
  simp only [Int.toNat_natCast, hx]
  refine wpAny_bind (wpAny_rule (wpAny_bind (wpAny_setField ho hd (by simp) ?_)))
  show wpAny _ _ (newExc (.type "StopIteration") [] >>= _) _ _ _
  refine wpAny_bind ?_
  simp only [newExc, newTuple]
  refine wpAny_bind (wpAny_newObj_type ?_ (by size_fits))
  refine wpAny_bind (m := firstArgMember _ _) (wpAny_of_eq (a := Value.none) (by first | rfl | (simp only [firstArgMember]; rfl)) ?_)
  refine wpAny_newObj_type ?_ (by size_fits)
  simp only [raiseNew]
  refine wpAny_bind (wpAny_handled ?_)
  first | rw [show A.in1.handled = none from hh] | rw [hh]
  refine wpAny_bind (wpAny_pure (wpAny_throw ?_))
  exact hE _ _ (((Heap.SameBut.update ..).extBut.push _).push _) ⟨_, Heap.get?_push_size _ rfl, rfl⟩
theorem next_src {S : Src} {it : Addr} {k : Nat} {p : Value → Prop} {Q : Value → Shared → Prop} (hit : S.itr it k s.heap) (hx : S.itm s.heap k p)
    (hQ : ∀ v h' tk, p v → S.itr it (k + 1) h' → Heap.SameBut it s.heap h' → Q v { s with heap := h', toks := tk }) : wpAny (model prog w) A (Builtin.SmallTypes.nextOf (.ref it)) Q E s := by
  cases S with
  | L a =>
    obtain ⟨xs, v, hl, hv, hp⟩ := hx
    exact wpAny_nextOf_list_item hit hl hv fun h' h1 h2 => hQ v h' s.toks hp h1 h2
  | T a =>
    obtain ⟨xs, v, hl, hv, hp⟩ := hx
    exact nextOf_tuple_item hit hl hv fun h' h1 h2 => hQ v h' s.toks hp h1 h2
  | S x t w =>
    obtain ⟨c, hc, hp⟩ := hx
    cases w with
    | true => exact wpAny_nextOf_wide_item hit hc fun h' h1 h2 => hQ _ h' _ (hp _) h1 h2
    | false => exact wpAny_nextOf_ascii_item hit hc fun h' h1 h2 => hQ _ h' _ (hp _) h1 h2
theorem next_fin {S : Src} {it : Addr} {k : Nat} {Q : Value → Shared → Prop} (hh : A.handled = none) (hit : S.itr it k s.heap) (hx : S.fin s.heap k)
    (hE : ∀ h' e, Heap.ExtBut it s.heap h' → (∃ o, h'.get? e = some o ∧ o.cls = .type "StopIteration") → E (.ref e) { s with heap := h' }) : wpAny (model prog w) A (Builtin.SmallTypes.nextOf (.ref it)) Q E s := by
  cases S with
  | L a => obtain ⟨xs, hl, hv⟩ := hx; exact wpAny_nextOf_list_end hh hit hl hv hE
  | T a => obtain ⟨xs, hl, hv⟩ := hx; exact nextOf_tuple_end hh hit hl hv hE
  | S x t w =>
    cases w with
    | true => exact wpAny_nextOf_wide_end hh hit hx hE
    | false => exact wpAny_nextOf_ascii_end hh hit hx hE

structure ZAp (z TI TO i1 i2 : Addr) : Prop where
  TIz : TI ≠ z
  TOz : TO ≠ z
  i1z : i1 ≠ z
  i2z : i2 ≠ z
  TITO : TI ≠ TO
  TIi1 : TI ≠ i1
  TIi2 : TI ≠ i2
  TOi1 : TO ≠ i1
  TOi2 : TO ≠ i2
  i12 : i1 ≠ i2
def Off (z TO i1 i2 : Addr) (l : List Addr) : Prop := ∀ b ∈ l, b ≠ z ∧ b ≠ TO ∧ b ≠ i1 ∧ b ≠ i2
theorem zip_next_itemX {z TI TO i1 i2 : Addr} {S1 S2 : Src} {k1 k2 : Nat} {p1 p2 : Value → Prop} {a b : Value} {Q : Value → Shared → Prop} (D : ZAp z TI TO i1 i2) (O1 : Off z TO i1 i2 S1.lies) (O2 : Off z TO i1 i2 S2.lies)
    (hz : IsZip s.heap z TI TO .none) (hTI : IsPair s.heap TI (.ref i1) (.ref i2)) (hTO : IsPair s.heap TO a b)
    (h1 : S1.itr i1 k1 s.heap) (h2 : S2.itr i2 k2 s.heap) (hx : S1.itm s.heap k1 p1) (hy : S2.itm s.heap k2 p2)
    (hQ : ∀ x y h' tk, p1 x → p2 y → IsZip h' z TI TO (rawInt s.heap.objs.size) → IsPair h' TO x y → S1.itr i1 (k1 + 1) h' → S2.itr i2 (k2 + 1) h' → IsPair h' s.heap.objs.size x y → h'.objs.size = s.heap.objs.size + 1 →
      (∀ c o, c ≠ z → c ≠ TO → c ≠ i1 → c ≠ i2 → s.heap.get? c = some o → h'.get? c = some o) → Q (.ref s.heap.objs.size) { s with heap := h', toks := tk }) :
    wpAny (model prog w) A (Builtin.«zip.__next__» ⟨[.ref z], []⟩) (fun fin s' => ∃ v, fin = .done (.ret v) ∧ Q v s') E s := by
  show wpAny _ _ (field (.ref z) 2 >>= _) _ _ _
  refine wpAny_bind (wpAny_field hz rfl (x := .bool false) rfl ?_)
  show wpAny _ _ (field (.ref z) 3 >>= _) _ _ _
  refine wpAny_bind (wpAny_field hz rfl (x := .ref TI) rfl ?_)
  refine wpAny_bind (wpAny_seqItems hTI rfl ?_)
  show wpAny _ _ (Builtin.SmallTypes.ownedTupleIsFree (.ref z) >>= _) _ _ _
  refine wpAny_bind ?_
  unfold Builtin.SmallTypes.ownedTupleIsFree
  refine wpAny_bind (wpAny_field hz rfl (x := .none) rfl (wpAny_pure ?_))
  simp only [if_true]
  refine wpAny_bind (wpAny_rule ?_)
  refine wpAny_bind (wpAny_field hz rfl (x := .ref TO) rfl ?_)
  refine wpAny_bind (wpAny_setField_rec hz (by simp) fun h₁ hz₁ hs₁ => ?_)
  replace hz₁ : IsZip h₁ z TI TO .ellipsis := hz₁
  refine wpAny_bind ?_
  simp only [List.zipIdx_cons, List.zipIdx_nil, List.forIn_cons, List.forIn_nil]
  refine wpAny_bind (wpAny_bind (wpAny_onRaise ?_))
  show wpAny _ _ (Builtin.SmallTypes.nextOf (.ref i1) >>= _) _ _ _
  refine wpAny_bind (next_src (S := S1) (p := p1) (k := k1) (h1.at fun o e => hs₁.extBut _ _ D.i1z e) (hx.at fun b hb o e => hs₁.extBut _ _ (O1 b hb).1 e) fun x h₂ tk₂ px h1₂ hs₂ => wpAny_pure ?_)
  have hTO₂ : IsPair h₂ TO a b := hs₂.extBut _ _ D.TOi1 (hs₁.extBut _ _ D.TOz hTO)
  refine wpAny_bind (wpAny_seqItems hTO₂ rfl ?_)
  refine wpAny_bind (wpAny_updateSeq_pair hTO₂ fun h₃ hTO₃ hs₃ => ?_)
  replace hTO₃ : IsPair h₃ TO x b := hTO₃
  refine wpAny_bind (wpAny_letGo (wpAny_pure ?_))
  refine wpAny_bind (wpAny_bind (wpAny_onRaise ?_))
  show wpAny _ _ (Builtin.SmallTypes.nextOf (.ref i2) >>= _) _ _ _
  refine wpAny_bind (next_src (S := S2) (p := p2) (k := k2) (h2.at fun o e => hs₃.extBut _ _ D.TOi2.symm (hs₂.extBut _ _ D.i12.symm (hs₁.extBut _ _ D.i2z e)))
    (hy.at fun b hb o e => hs₃.extBut _ _ (O2 b hb).2.1 (hs₂.extBut _ _ (O2 b hb).2.2.1 (hs₁.extBut _ _ (O2 b hb).1 e))) fun y h₄ tk₄ py h2₄ hs₄ => wpAny_pure ?_)
  have hTO₄ : IsPair h₄ TO x b := hs₄.extBut _ _ D.TOi2 hTO₃
  refine wpAny_bind (wpAny_seqItems hTO₄ rfl ?_)
  refine wpAny_bind (wpAny_updateSeq_pair hTO₄ fun h₅ hTO₅ hs₅ => ?_)
  replace hTO₅ : IsPair h₅ TO x y := hTO₅
  refine wpAny_bind (wpAny_letGo (wpAny_pure (wpAny_pure ?_)))
  refine wpAny_bind (wpAny_seqItems hTO₅ rfl ?_)
  refine wpAny_bind (wpAny_newTuple ?_)
  have hsz : h₅.objs.size = s.heap.objs.size := by rw [hs₅.1, hs₄.1, hs₃.1, hs₂.1, hs₁.1]
  have hz₅ : IsZip h₅ z TI TO .ellipsis := hs₅.extBut _ _ D.TOz.symm (hs₄.extBut _ _ D.i2z.symm (hs₃.extBut _ _ D.TOz.symm (hs₂.extBut _ _ D.i1z.symm hz₁)))
  have hk₅ : ∀ c o, c ≠ z → c ≠ TO → c ≠ i1 → c ≠ i2 → s.heap.get? c = some o → h₅.get? c = some o := fun c o c1 c2 c3 c4 e =>
    hs₅.extBut _ _ c2 (hs₄.extBut _ _ c4 (hs₃.extBut _ _ c2 (hs₂.extBut _ _ c3 (hs₁.extBut _ _ c1 e))))
  have h1₅ : S1.itr i1 (k1 + 1) h₅ := h1₂.at fun o e => hs₅.extBut _ _ D.TOi1.symm (hs₄.extBut _ _ D.i12 (hs₃.extBut _ _ D.TOi1.symm e))
  have h2₅ : S2.itr i2 (k2 + 1) h₅ := h2₄.at fun o e => hs₅.extBut _ _ D.TOi2.symm e
  have hzlt : z < h₅.objs.size := Heap.lt_size hz₅
  show wpAny _ _ (Builtin.SmallTypes.ownedTupleHandOut (.ref z) (.ref h₅.objs.size) >>= _) _ _ _
  refine wpAny_bind ?_
  unfold Builtin.SmallTypes.ownedTupleHandOut
  have hz₆ : IsZip (h₅.push { cls := .type "tuple", data := .seq #[x, y] }) z TI TO .ellipsis := Heap.get?_push_of_some _ hz₅
  refine wpAny_bind (wpAny_setField_rec hz₆ (by simp) fun h₇ hz₇ hs₇ => ?_)
  replace hz₇ : IsZip h₇ z TI TO (rawInt h₅.objs.size) := hz₇
  refine wpAny_setField_rec hz₇ (by simp) fun h₈ hz₈ hs₈ => ?_
  replace hz₈ : IsZip h₈ z TI TO (rawInt h₅.objs.size) := hz₈
  have up : ∀ c o, c ≠ z → h₅.get? c = some o → h₈.get? c = some o := fun c o c1 e => hs₈.extBut _ _ c1 (hs₇.extBut _ _ c1 (Heap.get?_push_of_some _ e))
  have hT₈ : IsPair h₈ h₅.objs.size x y := hs₈.extBut _ _ (Nat.ne_of_gt hzlt) (hs₇.extBut _ _ (Nat.ne_of_gt hzlt) (Heap.get?_push_size _ rfl))
  have hz8 : h₈.objs.size = h₅.objs.size + 1 := by rw [hs₈.1, hs₇.1, Heap.size_push]
  rw [hsz] at hz₈ hT₈ hz8
  refine wpAny_pure ⟨_, rfl, ?_⟩
  show Q (.ref h₅.objs.size) _
  rw [hsz]
  exact hQ x y h₈ tk₄ px py hz₈ (up _ _ D.TOz hTO₅) (h1₅.at fun o e => up _ o D.i1z e) (h2₅.at fun o e => up _ o D.i2z e) hT₈ hz8 fun c o c1 c2 c3 c4 e => up c o c1 (hk₅ c o c1 c2 c3 c4 e)
theorem zip_next_endX {z TI TO i1 i2 : Addr} {S1 S2 : Src} {k1 k2 : Nat} {a b : Value} {Q : Fin → Shared → Prop} (hh : A.handled = none) (D : ZAp z TI TO i1 i2) (O1 : Off z TO i1 i2 S1.lies) (O2 : Off z TO i1 i2 S2.lies)
    (hz : IsZip s.heap z TI TO .none) (hTI : IsPair s.heap TI (.ref i1) (.ref i2)) (hTO : IsPair s.heap TO a b)
    (h1 : S1.itr i1 k1 s.heap) (h2 : S2.itr i2 k2 s.heap) (hend : S1.fin s.heap k1 ∨ (S1.itm s.heap k1 (fun _ => True) ∧ S2.fin s.heap k2))
    (hE : ∀ h' e tk, (∀ c o, c ≠ z → c ≠ TO → c ≠ i1 → c ≠ i2 → s.heap.get? c = some o → h'.get? c = some o) → (∃ o, h'.get? e = some o ∧ o.cls = .type "StopIteration") → E (.ref e) { s with heap := h', toks := tk }) :
    wpAny (model prog w) A (Builtin.«zip.__next__» ⟨[.ref z], []⟩) Q E s := by
  show wpAny _ _ (field (.ref z) 2 >>= _) _ _ _
  refine wpAny_bind (wpAny_field hz rfl (x := .bool false) rfl ?_)
  show wpAny _ _ (field (.ref z) 3 >>= _) _ _ _
  refine wpAny_bind (wpAny_field hz rfl (x := .ref TI) rfl ?_)
  refine wpAny_bind (wpAny_seqItems hTI rfl ?_)
  show wpAny _ _ (Builtin.SmallTypes.ownedTupleIsFree (.ref z) >>= _) _ _ _
  refine wpAny_bind ?_
  unfold Builtin.SmallTypes.ownedTupleIsFree
  refine wpAny_bind (wpAny_field hz rfl (x := .none) rfl (wpAny_pure ?_))
  simp only [if_true]
  refine wpAny_bind (wpAny_rule ?_)
  refine wpAny_bind (wpAny_field hz rfl (x := .ref TO) rfl ?_)
  refine wpAny_bind (wpAny_setField_rec hz (by simp) fun h₁ hz₁ hs₁ => ?_)
  replace hz₁ : IsZip h₁ z TI TO .ellipsis := hz₁
  refine wpAny_bind ?_
  simp only [List.zipIdx_cons, List.zipIdx_nil, List.forIn_cons, List.forIn_nil]
  refine wpAny_bind (wpAny_bind (wpAny_onRaise ?_))
  show wpAny _ _ (Builtin.SmallTypes.nextOf (.ref i1) >>= _) _ _ _
  rcases hend with hf | ⟨hx, hf⟩
  · refine wpAny_bind (next_fin hh (h1.at fun o e => hs₁.extBut _ _ D.i1z e) (hf.at fun b hb o e => hs₁.extBut _ _ (O1 b hb).1 e) fun h₂ e hs₂ he => ?_)
    obtain ⟨oe, hoe, hce⟩ := he
    have hz₂ : IsZip h₂ z TI TO .ellipsis := hs₂ _ _ D.i1z.symm hz₁
    have hez : e ≠ z := fun x => by subst x; rw [hz₂] at hoe; cases hoe; simp at hce
    refine wpAny_setField_rec hz₂ (by simp) fun h₃ _ hs₃ => hE h₃ e _ (fun c o c1 _ c3 _ x => hs₃.extBut _ _ c1 (hs₂ _ _ c3 (hs₁.extBut _ _ c1 x))) ⟨oe, hs₃.extBut _ _ hez hoe, hce⟩
  · refine wpAny_bind (next_src (S := S1) (k := k1) (h1.at fun o e => hs₁.extBut _ _ D.i1z e) (hx.at fun b hb o e => hs₁.extBut _ _ (O1 b hb).1 e) fun x h₂ tk₂ _ h1₂ hs₂ => wpAny_pure ?_)
    have hTO₂ : IsPair h₂ TO a b := hs₂.extBut _ _ D.TOi1 (hs₁.extBut _ _ D.TOz hTO)
    refine wpAny_bind (wpAny_seqItems hTO₂ rfl ?_)
    refine wpAny_bind (wpAny_updateSeq_pair hTO₂ fun h₃ hTO₃ hs₃ => ?_)
    refine wpAny_bind (wpAny_letGo (wpAny_pure ?_))
    refine wpAny_bind (wpAny_bind (wpAny_onRaise ?_))
    show wpAny _ _ (Builtin.SmallTypes.nextOf (.ref i2) >>= _) _ _ _
    refine wpAny_bind (next_fin hh (h2.at fun o e => hs₃.extBut _ _ D.TOi2.symm (hs₂.extBut _ _ D.i12.symm (hs₁.extBut _ _ D.i2z e)))
      (hf.at fun b hb o e => hs₃.extBut _ _ (O2 b hb).2.1 (hs₂.extBut _ _ (O2 b hb).2.2.1 (hs₁.extBut _ _ (O2 b hb).1 e))) fun h₄ e hs₄ he => ?_)
    obtain ⟨oe, hoe, hce⟩ := he
    have hz₄ : IsZip h₄ z TI TO .ellipsis := hs₄ _ _ D.i2z.symm (hs₃.extBut _ _ D.TOz.symm (hs₂.extBut _ _ D.i1z.symm hz₁))
    have hez : e ≠ z := fun x => by subst x; rw [hz₄] at hoe; cases hoe; simp at hce
    refine wpAny_setField_rec hz₄ (by simp) fun h₅ _ hs₅ => hE h₅ e _ (fun c o c1 c2 c3 c4 x => hs₅.extBut _ _ c1 (hs₄ _ _ c4 (hs₃.extBut _ _ c2 (hs₂.extBut _ _ c3 (hs₁.extBut _ _ c1 x))))) ⟨oe, hs₅.extBut _ _ hez hoe, hce⟩
theorem pyNext_zip_itemX {z TI TO i1 i2 : Addr} {S1 S2 : Src} {k1 k2 : Nat} {p1 p2 : Value → Prop} {a b : Value} {Q : Option Value → Shared → Prop} (D : ZAp z TI TO i1 i2) (O1 : Off z TO i1 i2 S1.lies) (O2 : Off z TO i1 i2 S2.lies)
    (hz : IsZip s.heap z TI TO .none) (hTI : IsPair s.heap TI (.ref i1) (.ref i2)) (hTO : IsPair s.heap TO a b)
    (h1 : S1.itr i1 k1 s.heap) (h2 : S2.itr i2 k2 s.heap) (hx : S1.itm s.heap k1 p1) (hy : S2.itm s.heap k2 p2)
    (hQ : ∀ x y h' tk, p1 x → p2 y → IsZip h' z TI TO (rawInt s.heap.objs.size) → IsPair h' TO x y → S1.itr i1 (k1 + 1) h' → S2.itr i2 (k2 + 1) h' → IsPair h' s.heap.objs.size x y → h'.objs.size = s.heap.objs.size + 1 →
      (∀ c o, c ≠ z → c ≠ TO → c ≠ i1 → c ≠ i2 → s.heap.get? c = some o → h'.get? c = some o) → Q (some (.ref s.heap.objs.size)) { s with heap := h', toks := tk }) :
    wpAny (model prog w) A (pyNext (.ref z)) Q E s := by
  have hT : s.TypeIs (.ref z) "zip" := ⟨_, hz, rfl⟩
  unfold pyNext
  exact wpAny_bind (wpAny_attempt (wpAny_callSpecial?_slot (name := Str.ofString "__next__") hT F.slot_zip_next
    (wpAny_call_entry F.slot_zip_next hT F.entry_zip_next
      (zip_next_itemX D O1 O2 hz hTI hTO h1 h2 hx hy fun x y h' tk px py a1 a2 a3 a4 a5 a6 a7 => wpAny_pure (hQ x y h' tk px py a1 a2 a3 a4 a5 a6 a7)) (F.args_zip_next_1 _))))
theorem pyNext_zip_endX {z TI TO i1 i2 : Addr} {S1 S2 : Src} {k1 k2 : Nat} {a b : Value} {Q : Option Value → Shared → Prop} (hh : A.handled = none) (D : ZAp z TI TO i1 i2) (O1 : Off z TO i1 i2 S1.lies) (O2 : Off z TO i1 i2 S2.lies)
    (hz : IsZip s.heap z TI TO .none) (hTI : IsPair s.heap TI (.ref i1) (.ref i2)) (hTO : IsPair s.heap TO a b)
    (h1 : S1.itr i1 k1 s.heap) (h2 : S2.itr i2 k2 s.heap) (hend : S1.fin s.heap k1 ∨ (S1.itm s.heap k1 (fun _ => True) ∧ S2.fin s.heap k2))
    (hQ : ∀ h' tk, (∀ c o, c ≠ z → c ≠ TO → c ≠ i1 → c ≠ i2 → s.heap.get? c = some o → h'.get? c = some o) → Q none { s with heap := h', toks := tk }) : wpAny (model prog w) A (pyNext (.ref z)) Q E s := by
  have hT : s.TypeIs (.ref z) "zip" := ⟨_, hz, rfl⟩
  unfold pyNext
  refine wpAny_bind (wpAny_attempt (wpAny_callSpecial?_slot (name := Str.ofString "__next__") hT F.slot_zip_next
    (wpAny_call_entry F.slot_zip_next hT F.entry_zip_next (zip_next_endX hh D O1 O2 hz hTI hTO h1 h2 hend fun h' e tk hk he => ?_) (F.args_zip_next_1 _))))
  obtain ⟨o, ho, hc⟩ := he
  refine wpAny_bind (wpAny_isInstance (T := "StopIteration") (b := true) ⟨o, ho, hc⟩ isSubtype_stop ?_)
  exact wpAny_pure (hQ _ _ hk)
end
end M

namespace M
open PySem PySem.Spec PyProof.Rows L2
namespace Src
def v : Src → Value
  | .L a => .ref a
  | .T a => .ref a
  | .S x t _ => .str x t
def ob : Src → Obj
  | .L a => { cls := .type "list_iterator", data := .fields #[.ref a, .int 0 0] }
  | .T a => { cls := .type "tuple_iterator", data := .fields #[.ref a, .int 0 0] }
  | .S x t w => { cls := .type (ty w), data := .fields #[.str x t, .int 0 0] }
def ok : Src → Heap → Prop
  | .L a, h => ∃ xs, h.IsList a xs
  | .T a, h => ∃ xs, h.IsTuple a xs
  | .S x _ w, _ => x.cps.all (· < 128) = !w
theorem ok.push {S : Src} {h : Heap} (x : S.ok h) (o : Obj) : S.ok (h.push o) := by
  cases S with
  | L a => obtain ⟨xs, o', ho, r⟩ := x; exact ⟨xs, o', Heap.get?_push_of_some _ ho, r⟩
  | T a => obtain ⟨xs, o', ho, r⟩ := x; exact ⟨xs, o', Heap.get?_push_of_some _ ho, r⟩
  | S y t w => exact x
theorem ob_itr {S : Src} {h : Heap} {i : Addr} (e : h.get? i = some S.ob) : S.itr i 0 h := by
  cases S with
  | L a => exact ⟨_, e, rfl, rfl⟩
  | T a => exact ⟨_, e, rfl, rfl⟩
  | S y t w => exact ⟨_, e, rfl, rfl⟩
end Src
section
variable {prog : Program} {w : World} {A : Around} {E : Value → Shared → Prop} {s : Shared}
theorem pyIter_src {S : Src} {Q : Value → Shared → Prop} (h : S.ok s.heap) (hQ : Q (.ref s.heap.objs.size) { s with heap := s.heap.push S.ob }) : wpAny (model prog w) A (pyIter S.v) Q E s := by
  cases S with
  | L a => obtain ⟨xs, hl⟩ := h; exact wpAny_pyIter_list hl hQ
  | T a => obtain ⟨xs, hl⟩ := h; exact wpAny_pyIter_tuple hl hQ
  | S x t w =>
    cases w with
    | true => exact wpAny_pyIter_wide h hQ
    | false => exact wpAny_pyIter_ascii h hQ
end
abbrev zxH1 (h : Heap) (S1 : Src) : Heap := h.push S1.ob
abbrev zxH2 (h : Heap) (S1 S2 : Src) : Heap := (zxH1 h S1).push S2.ob
abbrev zxH3 (h : Heap) (S1 S2 : Src) : Heap := (zxH2 h S1 S2).push { cls := .type "tuple", data := .seq #[.ref h.objs.size, .ref (zxH1 h S1).objs.size] }
abbrev zxH4 (h : Heap) (S1 S2 : Src) : Heap := (zxH3 h S1 S2).push { cls := .type "tuple", data := .seq #[.none, .none] }
abbrev zxH5 (h : Heap) (S1 S2 : Src) : Heap := (zxH4 h S1 S2).push { cls := .type "zip", data := .fields #[.none, .bool false, .bool false, .ref (zxH2 h S1 S2).objs.size, .ref (zxH3 h S1 S2).objs.size] }
theorem meets_zipX_new (S1 S2 : Src) :
    Meets (Builtin.«zip.__new__» ⟨[.type "zip", S1.v, S2.v], []⟩) (fun _ R s => S1.ok s.heap ∧ S2.ok s.heap ∧
      R (.ok (.ret (.ref (zxH4 s.heap S1 S2).objs.size))) { s with heap := zxH5 s.heap S1 S2 }) :=
  .of_wp fun prog w A R s h => by
    obtain ⟨hp, g, d, tk, os⟩ := s; obtain ⟨hl1, hl2, h⟩ := h
    have hsub := sub_zip
    have hL1 : S1.ok (Shared.heap ⟨hp, g, d, tk, os⟩) := hl1
    have hL2 : S2.ok (Shared.heap ⟨hp.push S1.ob, g, d, tk, os⟩) := hl2.push _
    wp_walk using pyIter_src hL1, pyIter_src hL2
    exact ⟨_, rfl, h⟩
section
variable {prog : Program} {w : World} {A : Around} {E : Value → Shared → Prop} {s : Shared}
theorem call_zipX {S1 S2 : Src} {Q : Value → Shared → Prop} (hl1 : S1.ok s.heap) (hl2 : S2.ok s.heap)
    (h : ∀ h', IsZip h' (s.heap.objs.size + 4) (s.heap.objs.size + 2) (s.heap.objs.size + 3) .none → IsPair h' (s.heap.objs.size + 2) (.ref s.heap.objs.size) (.ref (s.heap.objs.size + 1)) →
      IsPair h' (s.heap.objs.size + 3) .none .none → S1.itr s.heap.objs.size 0 h' → S2.itr (s.heap.objs.size + 1) 0 h' → h'.objs.size = s.heap.objs.size + 5 →
      (∀ c o, s.heap.get? c = some o → h'.get? c = some o) → Q (.ref (s.heap.objs.size + 4)) { s with heap := h' }) :
    wpAny (model prog w) A (call (.type "zip") [S1.v, S2.v]) Q E s := by
  refine callType_new F.called_zip (by decide) (F.typeCall_zip_2 _ _) (F.newCall_zip_2 _ _) (fun obj => F.args_object_init_3 obj _ _) F.entry_zip_new
    (meets_zipX_new S1 S2) ⟨hl1, hl2, ?_⟩
  have z1 : (zxH1 s.heap S1).objs.size = s.heap.objs.size + 1 := Heap.size_push ..
  have z2 : (zxH2 s.heap S1 S2).objs.size = s.heap.objs.size + 2 := by rw [Heap.size_push, z1]
  have z3 : (zxH3 s.heap S1 S2).objs.size = s.heap.objs.size + 3 := by rw [Heap.size_push, z2]
  have z4 : (zxH4 s.heap S1 S2).objs.size = s.heap.objs.size + 4 := by rw [Heap.size_push, z3]
  have z5 : (zxH5 s.heap S1 S2).objs.size = s.heap.objs.size + 5 := by rw [Heap.size_push, z4]
  have hf : ∀ S : Src, S.ob.isFreed = false := fun S => by cases S <;> rfl
  have g5 : (zxH5 s.heap S1 S2).get? (zxH4 s.heap S1 S2).objs.size = some _ := Heap.get?_push_size _ rfl
  have g4 : (zxH5 s.heap S1 S2).get? (zxH3 s.heap S1 S2).objs.size = some _ := Heap.get?_push_of_some _ (Heap.get?_push_size _ rfl)
  have g3 : (zxH5 s.heap S1 S2).get? (zxH2 s.heap S1 S2).objs.size = some _ := Heap.get?_push_of_some _ (Heap.get?_push_of_some _ (Heap.get?_push_size _ rfl))
  have g2 : (zxH5 s.heap S1 S2).get? (zxH1 s.heap S1).objs.size = some S2.ob := Heap.get?_push_of_some _ (Heap.get?_push_of_some _ (Heap.get?_push_of_some _ (Heap.get?_push_size _ (hf S2))))
  have g1 : (zxH5 s.heap S1 S2).get? s.heap.objs.size = some S1.ob := Heap.get?_push_of_some _ (Heap.get?_push_of_some _ (Heap.get?_push_of_some _ (Heap.get?_push_of_some _ (Heap.get?_push_size _ (hf S1)))))
  show _ ∧ _
  rw [z2, z3, z4] at g5
  rw [z1, z2] at g3
  rw [z3] at g4
  rw [z1] at g2
  rw [z4]
  exact ⟨⟨_, g5, rfl⟩, h _ g5 g3 g4 (Src.ob_itr g1) (Src.ob_itr g2) z5 fun c o x =>
    Heap.get?_push_of_some _ (Heap.get?_push_of_some _ (Heap.get?_push_of_some _ (Heap.get?_push_of_some _ (Heap.get?_push_of_some _ x))))⟩
end

inductive SK where
  | L (a : Addr) | T (a : Addr) | S (z : Str)
def chs (z : Str) : List V := z.cps.toList.map fun c => V.str ⟨#[c]⟩
def SK.v : SK → V
  | .L a => .ref a
  | .T a => .ref a
  | .S z => .str z
def SK.sq (K : PySem.W.Frag) (H : Hp) : SK → List V → Prop
  | .L a, xs => SqL K H a xs
  | .T a, xs => SqT K H a xs
  | .S z, xs => xs = chs z
structure SkSrc (k : SK) (S : Src) : Prop where
  same : (∃ a, k = .L a ∧ S = .L a) ∨ (∃ a, k = .T a ∧ S = .T a) ∨ ∃ z t w, k = .S z ∧ S = .S z t w
theorem chs_get {z : Str} {i : Nat} {x : V} (h : (chs z)[i]? = some x) : ∃ c, z.cps[i]? = some c ∧ x = .str ⟨#[c]⟩ := by
  unfold chs at h
  rw [List.getElem?_map] at h
  cases e : z.cps.toList[i]? with
  | none => rw [e] at h; cases h
  | some c => rw [e] at h; cases h; exact ⟨c, by simpa using e, rfl⟩
section
variable {X : Cx} {pins : List (Addr × Obj)} {σ : L2.St} {H : Hp} {s : Shared}
theorem sq_inj {k : SK} {xs ys : List V} (I : Inv X pins σ H s) (h : k.sq X.K H xs) (h' : k.sq X.K H ys) : xs = ys := by
  cases k with
  | L a => exact I.list_inj h h'
  | T a => exact I.tuple_inj h h'
  | S z => exact (show xs = chs z from h).trans (show ys = chs z from h').symm
theorem sq_itm {k : SK} {S : Src} {xs : List V} {i : Nat} {x : V} (I : Inv X pins σ H s) (e : SkSrc k S) (h : k.sq X.K H xs) (hx : xs[i]? = some x) : S.itm s.heap i fun u => RelV x u := by
  rcases e.same with ⟨a, rfl, rfl⟩ | ⟨a, rfl, rfl⟩ | ⟨z, t, w, rfl, rfl⟩
  · obtain ⟨its, rv, p, _⟩ := I.list h
    obtain ⟨u, hu, ru⟩ := rv.get hx
    exact ⟨_, u, p.isList, by simpa using hu, ru⟩
  · obtain ⟨its, rv, p, _⟩ := I.tuple h
    obtain ⟨u, hu, ru⟩ := rv.get hx
    exact ⟨_, u, p, by simpa using hu, ru⟩
  · obtain rfl : xs = chs z := h
    obtain ⟨c, hc, rfl⟩ := chs_get hx
    exact ⟨c, hc, fun u => ⟨u, rfl⟩⟩
theorem sq_fin {k : SK} {S : Src} {xs : List V} {i : Nat} (I : Inv X pins σ H s) (e : SkSrc k S) (h : k.sq X.K H xs) (hx : xs.length ≤ i) : S.fin s.heap i := by
  rcases e.same with ⟨a, rfl, rfl⟩ | ⟨a, rfl, rfl⟩ | ⟨z, t, w, rfl, rfl⟩
  · obtain ⟨its, rv, p, _⟩ := I.list h
    have := rv.length
    exact ⟨_, p.isList, by simp; omega⟩
  · obtain ⟨its, rv, p, _⟩ := I.tuple h
    have := rv.length
    exact ⟨_, p, by simp; omega⟩
  · obtain rfl : xs = chs z := h
    have : (chs z).length = z.cps.size := by simp [chs]
    exact Array.getElem?_eq_none (by omega)
theorem sq_src {k : SK} {xs : List V} {u : Value} (I : Inv X pins σ H s) (h : k.sq X.K H xs) (r : RelV k.v u) : ∃ S : Src, SkSrc k S ∧ S.v = u ∧ S.ok s.heap ∧ ∀ b ∈ S.lies, b < s.heap.objs.size := by
  cases k with
  | L a =>
    obtain ⟨its, rv, p, _⟩ := I.list h
    obtain rfl : u = .ref a := r
    exact ⟨.L a, ⟨.inl ⟨a, rfl, rfl⟩⟩, rfl, ⟨_, p.isList⟩, fun b hb => by simp [Src.lies] at hb; rw [hb]; exact p.lt⟩
  | T a =>
    obtain ⟨its, rv, p, _⟩ := I.tuple h
    obtain rfl : u = .ref a := r
    exact ⟨.T a, ⟨.inr (.inl ⟨a, rfl, rfl⟩)⟩, rfl, ⟨_, p⟩, fun b hb => by simp [Src.lies] at hb; rw [hb]; exact p.lt⟩
  | S z =>
    obtain ⟨t, rfl⟩ := r
    refine ⟨.S z t (!(z.cps.all (· < 128))), ⟨.inr (.inr ⟨z, t, _, rfl, rfl⟩)⟩, rfl, ?_, fun b hb => by simp [Src.lies] at hb⟩
    show z.cps.all (· < 128) = !(!(z.cps.all (· < 128)))
    rw [Bool.not_not]
end

def Itzx (K : PySem.W.Frag) (k1 k2 : SK) : It :=
  ⟨fun i H => ∃ (xs ys : List V) (x y : V), k1.sq K H xs ∧ k2.sq K H ys ∧ xs[i]? = some x ∧ ys[i]? = some y,
    fun i H v H' => ∃ T x y, v = .ref T ∧ H T = none ∧ H' = upd H T (.tup [x, y]) ∧ (∀ xs, k1.sq K H xs → xs[i]? = some x) ∧ ∀ ys, k2.sq K H ys → ys[i]? = some y,
    fun i H => ∃ xs ys : List V, k1.sq K H xs ∧ k2.sq K H ys ∧ (xs.length ≤ i ∨ ys.length ≤ i)⟩
theorem turn_zipX {P : Program} {w : World} {K : PySem.W.Frag} {elts : List Expr} {kk : Nat} {tpos : Pos} {k1 k2 : SK} {S1 S2 : Src} {z TI TO i1 i2 : Addr} (D : ZAp z TI TO i1 i2) (O1 : Off z TO i1 i2 S1.lies) (O2 : Off z TO i1 i2 S2.lies) (e1 : SkSrc k1 S1) (e2 : SkSrc k2 S2) :
    Turn P w K (.Tuple elts kk tpos) (Itzx K k1 k2) [z, TI, TO, i1, i2] z (fun i h => IsZip h z TI TO .none ∧ IsPair h TI (.ref i1) (.ref i2) ∧ (∃ x y, IsPair h TO x y) ∧ S1.itr i1 i h ∧ S2.itr i2 i h) where
  mem := by simp
  obj := fun i h st c hc => by
    obtain ⟨hz, hTI, ⟨x, y, hTO⟩, q1, q2⟩ := st
    have e' : c = z ∨ c = TI ∨ c = TO ∨ c = i1 ∨ c = i2 := by simpa using hc
    rcases e' with q | q | q | q | q
    · rw [q]; exact ⟨_, hz, fun v q => nomatch q⟩
    · rw [q]; exact ⟨_, hTI, fun v q => nomatch q⟩
    · rw [q]; exact ⟨_, hTO, fun v q => nomatch q⟩
    · rw [q]; exact q1.obj
    · rw [q]; exact q2.obj
  keep := fun i h h' st k => by
    obtain ⟨hz, hTI, ⟨x, y, hTO⟩, h1, h2⟩ := st
    exact ⟨k z (by simp) _ hz, k TI (by simp) _ hTI, ⟨x, y, k TO (by simp) _ hTO⟩, h1.at fun o q => k i1 (by simp) o q, h2.at fun o q => k i2 (by simp) o q⟩
  item := by
    intro X hP hw hK hc i pins s σ H E I hf st hg
    subst hP hw hK
    obtain ⟨hz, hTI, ⟨x0, y0, hTO⟩, h1, h2⟩ := st
    obtain ⟨xs, ys, x, y, hqx, hqy, hx, hy⟩ := hg
    have hzl : z < s.heap.objs.size := Heap.lt_size hz
    refine pyNext_zip_itemX D O1 O2 hz hTI hTO h1 h2 (sq_itm I e1 hqx hx) (sq_itm I e2 hqy hy) fun u u2 h' tk ru ru2 z' TO' h1' h2' hT hsz hk => ?_
    refine ⟨_, rfl, wpAny_letOwnedTupleGo_zip (s := { s with heap := h', toks := tk }) z' fun h'' z'' sb => ?_⟩
    have hT2 : h''.get? s.heap.objs.size = some { cls := .type "tuple", data := .seq #[u, u2] } := (sb.2 _ (Nat.ne_of_gt hzl)).trans hT
    have new : ObjOk X.prog X.w (upd H s.heap.objs.size (.tup [x, y])) h'' s.heap.objs.size (.tup [x, y]) :=
      ⟨by show 2 ≤ sizeLine; decide, [u, u2], .cons ru (.cons ru2 .nil), ⟨_, hT2, rfl, _, rfl⟩⟩
    have I1 : Inv X pins σ (upd H s.heap.objs.size (.tup [x, y])) { s with heap := h'', toks := tk } :=
      I.turnedNew (t' := tk) (ch := [z, TI, TO, i1, i2]) (fun c o hb q => (sb.2 c (fun q' => hb (by simp [q']))).trans (hk c o (fun q' => hb (by simp [q'])) (fun q' => hb (by simp [q'])) (fun q' => hb (by simp [q'])) (fun q' => hb (by simp [q'])) q)) hf (Nat.le_refl _) new
    refine ⟨.ref s.heap.objs.size, _, I1, rfl, ⟨_, x, y, rfl, I.hok.fresh (Nat.le_refl _), rfl, fun l hl => by rw [sq_inj I hl hqx]; exact hx, fun l hl => by rw [sq_inj I hl hqy]; exact hy⟩, ⟨z'', ?_, ⟨u, u2, ?_⟩, ?_, ?_⟩, fun c hcm => ?_⟩
    · exact (sb.2 _ D.TIz).trans (hk _ _ D.TIz D.TITO D.TIi1 D.TIi2 hTI)
    · exact (sb.2 _ D.TOz).trans TO'
    · exact h1'.at fun o q => (sb.2 _ D.i1z).trans q
    · exact h2'.at fun o q => (sb.2 _ D.i2z).trans q
    · have hlt : c < s.heap.objs.size := by
        have e' : c = z ∨ c = TI ∨ c = TO ∨ c = i1 ∨ c = i2 := by simpa using hcm
        rcases e' with q | q | q | q | q
        · rw [q]; exact hzl
        · rw [q]; exact Heap.lt_size hTI
        · rw [q]; exact Heap.lt_size hTO
        · rw [q]; obtain ⟨_, e1, _⟩ := h1.obj; exact Heap.lt_size e1
        · rw [q]; obtain ⟨_, e2, _⟩ := h2.obj; exact Heap.lt_size e2
      rw [upd_ne (Nat.ne_of_lt hlt)]
      exact (hf c hcm).1
  done := by
    intro X hP hw hK hc i pins s σ H E I hf st hg
    subst hP hw hK
    obtain ⟨hz, hTI, ⟨x0, y0, hTO⟩, h1, h2⟩ := st
    obtain ⟨xs, ys, hqx, hqy, hend⟩ := hg
    have he : S1.fin s.heap i ∨ (S1.itm s.heap i (fun _ => True) ∧ S2.fin s.heap i) := by
      by_cases hl : xs.length ≤ i
      · exact .inl (sq_fin I e1 hqx hl)
      · have hl2 : ys.length ≤ i := by rcases hend with q | q; exact absurd q hl; exact q
        have q := sq_itm I e1 hqx (i := i) (x := xs[i]'(by omega)) (by simp)
        refine .inr ⟨?_, sq_fin I e2 hqy hl2⟩
        cases S1 with
        | L a => obtain ⟨a1, a2, a3, a4, _⟩ := q; exact ⟨a1, a2, a3, a4, trivial⟩
        | T a => obtain ⟨a1, a2, a3, a4, _⟩ := q; exact ⟨a1, a2, a3, a4, trivial⟩
        | S a b c => obtain ⟨a1, a2, _⟩ := q; exact ⟨a1, a2, fun _ => trivial⟩
    exact pyNext_zip_endX (I.ok.hd hc) D O1 O2 hz hTI hTO h1 h2 he fun h' tk hk => ⟨rfl, I.turnedL (t' := tk) (ch := [z, TI, TO, i1, i2]) (fun c o hb q =>
      hk c o (fun q' => hb (by simp [q'])) (fun q' => hb (by simp [q'])) (fun q' => hb (by simp [q'])) (fun q' => hb (by simp [q'])) q) hf⟩
  self := fun A i s Q E st h => wpAny_pyIter_zip st.1 h
theorem nn (a b : Nat) (h : a ≠ b) : (a : Addr) ≠ (b : Addr) := h
theorem zap_of (n : Nat) : ZAp (n + 4) (n + 2) (n + 3) n (n + 1) :=
  ⟨nn _ _ (by omega), nn _ _ (by omega), nn _ _ (by omega), nn _ _ (by omega), nn _ _ (by omega), nn _ _ (by omega), nn _ _ (by omega), nn _ _ (by omega), nn _ _ (by omega), nn _ _ (by omega)⟩
theorem off_of (n b : Nat) (h : b < n) : (b : Addr) ≠ n + 4 ∧ (b : Addr) ≠ n + 3 ∧ (b : Addr) ≠ n ∧ (b : Addr) ≠ n + 1 := ⟨nn _ _ (by omega), nn _ _ (by omega), nn _ _ (by omega), nn _ _ (by omega)⟩
theorem le5 (n c : Nat) (h : c = n + 4 ∨ c = n + 2 ∨ c = n + 3 ∨ c = n ∨ c = n + 1) : n ≤ c := by omega
def iZipX (K : PySem.W.Frag) (ta : TA) : TI := fun σ H R => ta σ H fun vs H1 => ∃ (k1 k2 : SK) (xs ys : List V), vs = [k1.v, k2.v] ∧ k1.sq K H1 xs ∧ k2.sq K H1 ys ∧ R (Itzx K k1 k2) H1
theorem pi_zipX {X : Cx} {e e2 : Expr} {ta : TA} {p pos tpos : Pos} {elts : List Expr} {kk : Nat} (hg : Gl X "zip") (hm : X.mg "zip" = none) (ha : PA X [e, e2] ta)
    (hs : starEach [e, e2] X.env = (false, eval e X.env) :: starEach [e2] X.env := by rfl) (hpl : (backTo pos (starEach [e2] X.env)).any (·.1) = false := by rfl) :
    PI X (.Tuple elts kk tpos) (.Call (.Name "zip" p) [e, e2] [] pos) (iZipX X.K ta) := by
  intro pins s σ H R I h
  refine Call_ (ld_blt I hg hm boot_zip5 (PyProof.Rows.callWith_type1 (thn (ha pos pins s σ H _ I h) fun us s1 ⟨vs, H1, I1, r1, q1⟩ => ?_) hs hpl))
  obtain ⟨k1, k2, xs, ys, ex, hqx, hqy, q⟩ := q1
  subst ex
  obtain ⟨u, u2, rfl, r, r'⟩ := vals2 r1
  obtain ⟨S1, e1, rfl, ok1, la⟩ := sq_src I1 hqx r
  obtain ⟨S2, e2, rfl, ok2, lb⟩ := sq_src I1 hqy r'
  refine call_zipX ok1 ok2 fun h' hz hTI hTO h1 h2 hsz hk => wpAny_pyIter_zip hz ?_
  have I2 : Inv X pins σ H1 { s1 with heap := h' } := I1.kept (t' := s1.toks) hk
  refine ⟨s1.heap.objs.size + 4, [s1.heap.objs.size + 4, s1.heap.objs.size + 2, s1.heap.objs.size + 3, s1.heap.objs.size, s1.heap.objs.size + 1], _, _, H1, rfl, I2, turn_zipX (S1 := S1) (S2 := S2) ?_ ?_ ?_ e1 e2, ⟨hz, hTI, ⟨_, _, hTO⟩, h1, h2⟩, fun c hcm => ?_, q⟩
  · exact zap_of _
  · exact fun b hb => off_of _ b (la b hb)
  · exact fun b hb => off_of _ b (lb b hb)
  · have e' : c = s1.heap.objs.size + 4 ∨ c = s1.heap.objs.size + 2 ∨ c = s1.heap.objs.size + 3 ∨ c = s1.heap.objs.size ∨ c = s1.heap.objs.size + 1 := by simpa using hcm
    have hle : s1.heap.objs.size ≤ c := le5 _ _ e'
    exact I1.fpOk hle (I1.hok.fresh hle)

theorem lc_zipX {K : PySem.W.Frag} {k1 k2 : SK} {xs ys : List V} {g : TG} {tt : TT} {te : TE} {vs : List Nat} {σ : L2.St} {H1 : Hp} {D : Addr} {Qd : Hp → Prop} (Pv : Nat → Hp → Prop) (h0 : Pv 0 (upd H1 D (.lst []))) (hl : ∀ i H, i ≤ min xs.length ys.length → Pv i H → k1.sq K H xs ∧ k2.sq K H ys)
    (hs : ∀ i x y T H, xs[i]? = some x → ys[i]? = some y → H T = none → Pv i H → g (.ref T) (wipe σ vs) (upd H T (.tup [x, y])) fun σ2 H2 => wipe σ2 vs = wipe σ vs ∧ tt σ2 H2 fun b H3 =>
      if b = true then te σ2 H3 fun y H4 => ∃ acc, H4 D = some (.lst acc) ∧ acc.length < sizeLine ∧ Pv (i + 1) (upd H4 D (.lst (acc ++ [y]))) else Pv (i + 1) H3)
    (hd : ∀ H, Pv (min xs.length ys.length) H → Qd H) :
    ∃ W : Nat → Nat → Hp → Prop, (∃ m, W 0 m (upd H1 D (.lst []))) ∧ ∀ i m H, W i m H →
      ((Itzx K k1 k2).stop i H ∧ Qd H) ∨ ((Itzx K k1 k2).go i H ∧ ∃ Nx : Hp → Prop, (∀ H', Nx H' → ∃ m', m' < m ∧ W (i + 1) m' H') ∧ ∀ x H', (Itzx K k1 k2).yld i H x H' → g x (wipe σ vs) H' fun σ2 H2 => wipe σ2 vs = wipe σ vs ∧ tt σ2 H2 fun b H3 =>
        if b = true then te σ2 H3 fun y H4 => ∃ acc, H4 D = some (.lst acc) ∧ acc.length < sizeLine ∧ Nx (upd H4 D (.lst (acc ++ [y]))) else Nx H3) := by
  refine ⟨fun i m H => m = min xs.length ys.length - i ∧ i ≤ min xs.length ys.length ∧ Pv i H, ⟨min xs.length ys.length, by simp, Nat.zero_le _, h0⟩, ?_⟩
  rintro i m H ⟨rfl, hi, p⟩
  obtain ⟨q1, q2⟩ := hl i H hi p
  by_cases hlt : i < min xs.length ys.length
  · have l1 : i < xs.length := by omega
    have l2 : i < ys.length := by omega
    refine .inr ⟨⟨xs, ys, xs[i], ys[i], q1, q2, by simp [l1], by simp [l2]⟩, Pv (i + 1), fun H' p' => ⟨min xs.length ys.length - (i + 1), by omega, rfl, hlt, p'⟩, fun x H' y => ?_⟩
    obtain ⟨T, a, b, rfl, hT, rfl, ha, hb⟩ := y
    exact hs i a b T _ (ha xs q1) (hb ys q2) hT p
  · have e : i = min xs.length ys.length := by omega
    subst e
    exact .inl ⟨⟨xs, ys, q1, q2, by omega⟩, hd H p⟩
end M

namespace M
open PySem PySem.Spec PyProof.Rows L2
section
variable {X : Cx}
def truO : Option HO → (Bool → Prop) → Prop
  | some (.lst xs), R => R (!xs.isEmpty)
  | some (.tup xs), R => R (!xs.isEmpty)
  | some (.dK kvs), R => R (!kvs.isEmpty)
  | _, _ => False
def truX (x : V) (H : Hp) (Q : Bool → Hp → Prop) : Prop := match x with
  | .non => Q false H
  | .bl b => Q b H
  | .int i => Q (i != 0) H
  | .str y => y.length ≤ sizeLine ∧ Q ((y.length : Int) != 0) H
  | .ref p => truO (H p) fun b => Q b H
  | _ => False
theorem tru_X : TruR X truX := fun pins s σ H x v Q I r h => tru_ok pins s σ H x v Q I r (by
  unfold truX at h
  split at h
  · exact ⟨_, rfl, h⟩
  · exact ⟨_, rfl, h⟩
  · exact ⟨_, rfl, h⟩
  · exact ⟨_, ⟨h.1, rfl⟩, h.2⟩
  · unfold truO at h
    split at h
    · rename_i e; exact ⟨_, .inl ⟨_, SqL.of e, rfl⟩, h⟩
    · rename_i e; exact ⟨_, .inr (.inl ⟨_, SqT.of e, rfl⟩), h⟩
    · rename_i e; exact ⟨_, .inr (.inr ⟨_, e, rfl⟩), h⟩
    · exact h.elim
  · exact h.elim)
def tTru (ta : TE) : TT := fun σ H Q => ta σ H fun x H' => truX x H' Q
theorem pt_truX {a : Expr} {ta : TE} (ha : PE X a ta) (he : ∀ whole, isTrue a X.env whole = (do let v ← whole; standAt a.pos; holding [v] (truthy v))) : PT X a (tTru ta) := by
  intro pins s σ H Q I h
  exact isTrue_plain (thn (ha pins s σ H _ I h) fun v s1 ⟨x, H1, I1, r1, q1⟩ => tru_X pins s1 σ H1 x v Q I1 r1 q1) (he _)
def tNotX (ta : TE) : TE := fun σ H Q => ta σ H fun x H1 => truX x H1 fun b H2 => Q (.bl (!b)) H2
theorem pe_notX {a : Expr} {ta : TE} {pos : Pos} (ha : PE X a ta) : PE X (.UnaryOp .Not a pos) (tNotX ta) := by
  intro pins s σ H Q I h
  refine UnaryOp_ (thn (ha pins s σ H _ I h) fun v s1 ⟨x, H1, I1, r1, q1⟩ => ?_)
  exact not_of (thn (tru_X pins s1 σ H1 x v _ I1 r1 q1) fun b s2 ⟨H2, I2, q2⟩ => ⟨.bl (!b), H2, I2, rfl, q2⟩)

def slO : Option HO → (List V → Prop) → Prop
  | some (.lst xs), R => R xs
  | some (.frz _ (.lst xs)), R => R xs
  | _, _ => False
def rSlX : V → Option Int → Option Int → Hp → VK → Prop := fun x lo hi H Q => match x with
  | .str z => z.length ≤ sizeLine ∧ Q (.str (cutS z lo hi)) H
  | .ref p => slO (H p) fun xs => ∀ q, H q = none → Q (.ref q) (upd H q (.lst (cutV xs lo hi)))
  | _ => False
theorem sl_X : SlR X rSlX := by
  intro pins s σ H x v vl vu lo hi sl Q I rx hs pl pu q
  unfold rSlX at q
  split at q
  · exact sl_str pins s σ H _ v vl vu lo hi sl Q I rx hs pl pu ⟨_, rfl, q.1, q.2⟩
  · unfold slO at q
    split at q
    · rename_i e; exact sl_list pins s σ H _ v vl vu lo hi sl Q I rx hs pl pu ⟨_, _, rfl, SqL.of e, q⟩
    · rename_i e; exact sl_list pins s σ H _ v vl vu lo hi sl Q I rx hs pl pu ⟨_, _, rfl, .inl (.inr ⟨_, e⟩), q⟩
    · exact q.elim
  · exact q.elim

def iO : Option HO → Prop → Prop → Prop
  | some (.lst _), a, _ => a
  | some (.tup _), _, b => b
  | _, _, _ => False
def iX (K : PySem.W.Frag) (te : TE) : TI := fun σ H R => te σ H fun x H1 => match x with
  | .str z => R (Its z) H1
  | .ref a => iO (H1 a) (R (Itl K a) H1) (R (Itt K a) H1)
  | _ => False
theorem pi_X {tg e : Expr} {te : TE} (he : PE X e te) : PI X tg e (iX X.K te) := by
  intro pins s σ H R I h
  refine thn (he pins s σ H _ I h) fun v s1 ⟨x, H1, I1, r1, q⟩ => ?_
  dsimp only at q
  split at q
  · rename_i z
    obtain ⟨t, rfl⟩ := r1
    cases ha : z.cps.all (· < 128)
    · exact wpAny_pyIter_wide ha (pi_one (tk := s1.toks) I1 _ (turn_str _ z t "str_iterator" (.inr rfl)) ⟨_, Heap.get?_push_size _ rfl, rfl, rfl⟩ q)
    · exact wpAny_pyIter_ascii ha (pi_one (tk := s1.toks) I1 _ (turn_str _ z t "str_ascii_iterator" (.inl rfl)) ⟨_, Heap.get?_push_size _ rfl, rfl, rfl⟩ q)
  · rename_i a
    cases r1
    unfold iO at q
    split at q
    · rename_i e
      obtain ⟨its, rv, p, hz⟩ := I1.list (SqL.of e)
      refine wpAny_pyIter_list p.isList ?_
      refine ⟨s1.heap.objs.size, [s1.heap.objs.size], _, _, H1, rfl, I1.kept (t' := s1.toks) fun b o e => Heap.get?_push_of_some _ e, turn_list a _, ⟨_, Heap.get?_push_size _ rfl, rfl, rfl⟩, fun b hb => ?_, q⟩
      have e : b = s1.heap.objs.size := by simpa using hb
      subst e
      exact I1.fpOk (Nat.le_refl _) (I1.hok.fresh (Nat.le_refl _))
    · rename_i e
      obtain ⟨its, rv, p, hz⟩ := I1.tuple (SqT.of e)
      refine wpAny_pyIter_tuple (show s1.heap.IsTuple a its.toArray from p) ?_
      refine ⟨s1.heap.objs.size, [s1.heap.objs.size], _, _, H1, rfl, I1.kept (t' := s1.toks) fun b o e => Heap.get?_push_of_some _ e, turn_tuple a _, ⟨_, Heap.get?_push_size _ rfl, rfl, rfl⟩, fun b hb => ?_, q⟩
      have e : b = s1.heap.objs.size := by simpa using hb
      subst e
      exact I1.fpOk (Nat.le_refl _) (I1.hok.fresh (Nat.le_refl _))
    · exact q.elim
  · exact q.elim

def tyXO : Option HO → String → Prop
  | some (.lst _), T => T = "list"
  | some (.dK _), T => T = "dict"
  | _, _ => False
def tyX (T : String) (x : V) (H : Hp) : Prop := match x with
  | .str _ => T = "str"
  | .ref p => tyXO (H p) T
  | _ => False
theorem tyX_V {K : PySem.W.Frag} {T : String} {x : V} {H : Hp} (h : tyX T x H) : tyV K T x H := by
  unfold tyX at h
  split at h
  · exact h
  · unfold tyXO at h
    split at h
    · rename_i e; exact .inl ⟨h, _, SqL.of e⟩
    · rename_i e; exact .inr (.inr (.inl ⟨h, .inl ⟨_, e⟩⟩))
    · exact h.elim
  · exact h.elim
def tBX0 (T : String) (r : V → List V → Hp → VK → Prop) (to : TE) : TE := fun σ H Q => to σ H fun x H1 => tyX T x H1 ∧ r x [] H1 Q
def tBX (T : String) (r : V → List V → Hp → VK → Prop) (to : TE) (t : TA) : TE := fun σ H Q => to σ H fun x H1 => tyX T x H1 ∧ t σ H1 fun xs H2 => r x xs H2 Q
variable {o e : Expr} {es : List Expr} {to : TE} {t : TA} {name : Str} {apos cpos : Pos} {T id : String} {r : V → List V → Hp → VK → Prop}
theorem pe_bmX0 (pa : PlainAttrs T) (slot : Slot T name id) (hty : typeOf (.builtin id) = pure (.type "method_descriptor")) (hm : MtR X id r) (ho : PE X o to)
    (hbase : attributeBase o name X.env (eval o X.env) = eval o X.env := by rfl) (hline : (apos.endLine == cpos.line) = true := by rfl) : PE X (.Call (.Attribute o name apos) [] [] cpos) (tBX0 T r to) := by
  intro pins s σ H Q I h
  refine wpAny_Call_method0_late hbase hline (thn (ho pins s σ H _ I h) fun v s1 ⟨x, H1, I1, r1, ty, q1⟩ => ?_)
  obtain ⟨h1, h2⟩ := tyV_is I1 r1 (tyX_V (K := X.K) ty)
  exact ⟨T, id, pa, slot, hty, h1, h2, Calls.callWith_builtin rfl (PySem.evalArgs_none (hm pins s1 σ H1 x [] v [] Q I1 r1 .nil q1))⟩
theorem pe_bmX (pa : PlainAttrs T) (slot : Slot T name id) (hty : typeOf (.builtin id) = pure (.type "method_descriptor")) (hm : MtR X id r) (ho : PE X o to) (ha : PA X (e :: es) t)
    (hbase : attributeBase o name X.env (eval o X.env) = eval o X.env := by rfl)
    (hfew : ((backTo cpos (starEach (e :: es) X.env)).all (fun x => !x.1) && (backToKw cpos (keywordEach [] X.env)).all (fun x => x.1.isSome)
      && decide ((e :: es).length + ([] : List Keyword).length + (if ([] : List Keyword).isEmpty then 0 else 1) < 30)) = true := by rfl)
    (hline : (apos.endLine == cpos.line) = true := by rfl) (hs : starEach (e :: es) X.env = (false, eval e X.env) :: starEach es X.env := by rfl) (hplain : (backTo cpos (starEach es X.env)).any (·.1) = false := by rfl) :
    PE X (.Call (.Attribute o name apos) (e :: es) [] cpos) (tBX T r to t) := by
  intro pins s σ H Q I h
  refine wpAny_Call_method_late hbase hfew hline rfl (thn (ho pins s σ H _ I h) fun v s1 ⟨x, H1, I1, r1, ty, q1⟩ => ?_)
  obtain ⟨h1, h2⟩ := tyV_is I1 r1 (tyX_V (K := X.K) ty)
  refine ⟨T, id, pa, slot, hty, h1, h2, ?_⟩
  have hA := ha cpos pins s1 σ H1 _ I1 q1
  rw [hs] at hA ⊢
  refine Calls.callWith_builtin (by show (false || (backTo cpos (starEach es X.env)).any (·.1)) = false; rw [hplain] <;> rfl) (Calls.evalArgs_plain ?_)
  exact thn hA fun us s2 ⟨vs, H2, I2, r2, q2⟩ => hm pins s2 σ H2 x vs v us Q I2 r1 r2 q2
theorem MtR.imp {id : String} {r r' : V → List V → Hp → VK → Prop} (h : MtR X id r) (hi : ∀ x xs H Q, r' x xs H Q → r x xs H Q) : MtR X id r' := fun pins s σ H x xs v us Q I rx rs q => h pins s σ H x xs v us Q I rx rs (hi _ _ _ _ q)
def appO : Option HO → V → (HO → Prop) → Prop
  | some (.lst xs), y, R => xs.length < sizeLine ∧ R (.lst (xs ++ [y]))
  | _, _, _ => False
def appX : V → List V → Hp → VK → Prop := fun x vs H Q => match x, vs with
  | .ref p, [y] => appO (H p) y fun o => Q .non (upd H p o)
  | _, _ => False
theorem mt_appX : MtR X "list.append" appX := MtR.imp (show MtR X "list.append" rAppend from mt_append) fun x vs H Q h => by
  unfold appX at h
  split at h
  · unfold appO at h
    split at h
    · rename_i e; exact ⟨_, _, _, rfl, rfl, e, h.1, h.2⟩
    · exact h.elim
  · exact h.elim
def revO : Option HO → (HO → Prop) → Prop
  | some (.lst xs), R => R (.lst xs.reverse)
  | _, _ => False
def revX : V → List V → Hp → VK → Prop := fun x vs H Q => match x, vs with
  | .ref p, [] => revO (H p) fun o => Q .non (upd H p o)
  | _, _ => False
theorem mt_revX : MtR X "list.reverse" revX := MtR.imp (show MtR X "list.reverse" rReverse from mt_reverse) fun x vs H Q h => by
  unfold revX at h
  split at h
  · unfold revO at h
    split at h
    · rename_i e; exact ⟨_, _, rfl, rfl, e, h⟩
    · exact h.elim
  · exact h.elim
def rMulX : R2 := fun x y H Q => match x, y with
  | .int i, .int j => IntMulOk i j ∧ Q (.int (i * j)) H
  | .ref p, .int k => repO (H p) k fun o => ∀ q, H q = none → Q (.ref q) (upd H q o)
  | _, _ => False
theorem op_mulX : OpR X (binaryOp .Mult) rMulX := by
  intro pins s σ H x y v u Q I rx ry h
  unfold rMulX at h
  split at h
  · exact op_mulL pins s σ H _ _ v u Q I rx ry ⟨_, _, rfl, rfl, h.1, h.2⟩
  · unfold repO at h
    split at h
    · rename_i e; exact op_rep pins s σ H _ _ v u Q I rx ry ⟨_, _, _, rfl, rfl, e, h.1, h.2.1, h.2.2.1, h.2.2.2⟩
    · exact h.elim
  · exact h.elim
end

section
variable {C : Int → Int → Prop} {g : Int → Int → V} {i j : Int} {H : Hp} {Q : VK}
theorem rI_ii : rI C g (.int i) (.int j) H Q = (C i j ∧ Q (g i j) H) := propext ⟨fun ⟨_, _, e1, e2, h⟩ => by cases e1; cases e2; exact h, fun h => ⟨_, _, rfl, rfl, h⟩⟩
theorem rI0_ii : rI0 g (.int i) (.int j) H Q = Q (g i j) H := propext ⟨fun ⟨_, _, e1, e2, h⟩ => by cases e1; cases e2; exact h, fun h => ⟨_, _, rfl, rfl, h⟩⟩
theorem rU_i {g : Int → V} : rU g (.int i) H Q = Q (g i) H := propext ⟨fun ⟨_, e1, h⟩ => by cases e1; exact h, fun h => ⟨_, rfl, h⟩⟩
theorem ex_bl {b : Bool} {R : Bool → Prop} : (∃ c, V.bl b = V.bl c ∧ R c) = R b := propext ⟨fun ⟨_, e, h⟩ => by cases e; exact h, fun h => ⟨_, rfl, h⟩⟩
theorem ex_int {b : Int} {R : Int → Prop} : (∃ c, V.int b = V.int c ∧ R c) = R b := propext ⟨fun ⟨_, e, h⟩ => by cases e; exact h, fun h => ⟨_, rfl, h⟩⟩
theorem ex_some {v : V} {R : V → Prop} : (∃ x, some (some v) = some (some x) ∧ R x) = R v := propext ⟨fun ⟨_, e, h⟩ => by cases e; exact h, fun h => ⟨_, rfl, h⟩⟩
theorem ex_two {a b : V} {R : V → V → Prop} : (∃ v w, [a, b] = [v, w] ∧ R v w) = R a b := propext ⟨fun ⟨_, _, e, h⟩ => by cases e; exact h, fun h => ⟨_, _, rfl, h⟩⟩
theorem ex_cons {a : V} {l : List V} {R : V → List V → Prop} : (∃ v r, a :: l = v :: r ∧ R v r) = R a l := propext ⟨fun ⟨_, _, e, h⟩ => by cases e; exact h, fun h => ⟨_, _, rfl, h⟩⟩
theorem nil_and {R : Prop} : ((([] : List V) = []) ∧ R) = R := propext ⟨fun h => h.2, fun h => ⟨rfl, h⟩⟩
theorem ite_t {A B : Prop} : (if true = true then A else B) = A := if_pos rfl
theorem ite_f {A B : Prop} : (if false = true then A else B) = B := if_neg Bool.false_ne_true
theorem upd_app {a b : Addr} {o : HO} : upd H a o b = if b = a then some o else H b := rfl
end
end M

namespace M
open PySem L2
def plO : HO → Bool
  | .lst _ => true
  | .tup _ => true
  | .dK _ => true
  | .frz _ u => plO u
  | .ext _ => true
  | .set _ _ => true
  | .tbl _ => true
  | _ => false
def Pl (H : Hp) : Prop := ∀ b o, H b = some o → plO o = true
theorem plO_noDT : ∀ {o : HO}, plO o = true → noDT o = true
  | .lst _, _ => rfl
  | .tup _, _ => rfl
  | .dK _, _ => rfl
  | .frz _ u, h => plO_noDT (o := u) h
  | .ext _, _ => rfl
  | .set _ _, _ => rfl
  | .tbl _, _ => rfl
theorem Pl.upd {H : Hp} {p : Addr} {o : HO} (h : Pl H) (ho : plO o = true) : Pl (upd H p o) := fun b u e => by
  rw [upd_app] at e
  split at e
  · cases e; exact ho
  · exact h b u e
theorem Pl.own {H : Hp} (h : Pl H) {b y : Addr} (e : H b = some (.own y)) : False := by have := h b _ e; cases this
def Chg (ex : List Addr) (H H' : Hp) : Prop := ∀ a, a ∉ ex → H' a = H a
def Kp (ex : List Addr) (H H' : Hp) : Prop := ∀ a o, a ∉ ex → H a = some o → H' a = some o
theorem Kp.refl (ex : List Addr) (H : Hp) : Kp ex H H := fun _ _ _ h => h
theorem Kp.trans {ex : List Addr} {H H1 H2 : Hp} (h : Kp ex H H1) (h' : Kp ex H1 H2) : Kp ex H H2 := fun a o n e => h' a o n (h a o n e)
theorem Kp.mono {ex ex' : List Addr} {H H1 : Hp} (h : Kp ex H H1) (hs : ∀ a ∈ ex, a ∈ ex') : Kp ex' H H1 := fun a o n e => h a o (fun m => n (hs a m)) e
theorem Kp.new {ex : List Addr} {H H1 : Hp} {p : Addr} {o : HO} (h : Kp ex H H1) (hp : H1 p = none) : Kp ex H (upd H1 p o) := fun a u n e => by
  rw [upd_ne (ne_of_none (h a u n e) hp)]; exact h a u n e
theorem Kp.upd {ex : List Addr} {H H1 : Hp} {p : Addr} {o : HO} (h : Kp ex H H1) (hp : p ∈ ex ∨ H p = none) : Kp ex H (upd H1 p o) := fun a u n e => by
  have : a ≠ p := by
    rintro rfl
    rcases hp with hp | hp
    · exact n hp
    · rw [hp] at e; cases e
  rw [upd_ne this]; exact h a u n e
theorem Kp.chg {ex ex' : List Addr} {H H1 H2 : Hp} (h : Kp ex H H1) (h' : Chg ex' H1 H2) (hs : ∀ a ∈ ex', a ∈ ex ∨ H a = none) : Kp ex H H2 := fun a u n e => by
  rw [h' a fun m => ?_]
  · exact h a u n e
  · rcases hs a m with q | q
    · exact n q
    · rw [q] at e; cases e
theorem Chg.none {ex : List Addr} {H H1 : Hp} (h : Chg ex H H1) {p : Addr} (hp : H1 p = .none) (hn : p ∉ ex) : H p = .none := by rw [← h p hn]; exact hp
theorem Kp.none {ex : List Addr} {H H1 : Hp} (h : Kp ex H H1) {p : Addr} (hp : H1 p = .none) (hn : p ∉ ex) : H p = .none := by
  cases e : H p with
  | none => rfl
  | some o => rw [h p o hn e] at hp; cases hp
theorem Chg.eq {H H1 : Hp} (h : Chg [] H H1) : H1 = H := funext fun a => h a (by simp)
theorem told (ex keep : List Addr) {H H' : Hp} {Q : VK} {v : V} (hpl : Pl H') (hk : Kp ex H H')
    (k : ∀ H2, Chg (ex ++ keep) H H2 → (∀ a ∈ ex ++ keep, H2 a = H' a) → Pl H2 → Q v H2) : Told H Q v H' := by
  classical
  refine ⟨fun a => if a ∈ ex ++ keep ∨ H a ≠ none then H' a else none, ⟨fun b o e => ?_, fun b hb => ?_, fun b y e => (hpl.own e).elim, .inr fun b o e => ?_⟩, k _ (fun a ha => ?_) (fun a ha => ?_) fun b o e => ?_⟩
  · split at e
    · exact e
    · cases e
  · exact if_pos (.inr hb)
  · split at e
    · exact plO_noDT (hpl b o e)
    · cases e
  · cases e : H a with
    | none => rw [if_neg (by rintro (q | q); exact ha q; exact q rfl)]
    | some o => rw [if_pos (.inr (by simp)), hk a o (fun m => ha (by simp [m])) e]
  · exact if_pos (.inl ha)
  · split at e
    · exact hpl b o e
    · cases e
theorem told_id {H H1 : Hp} {Q : VK} {v : V} (h : Q v H1) : Told H Q v H1 := ⟨H1, Fg.refl H H1, h⟩

def boxD (c : Addr) (t : Int) : HO := .dK [(Sum.inr "cells", .ref c), (Sum.inr "turn", .int t)]
structure Box (H : Hp) (b c : Addr) (T : Int) : Prop where
  ex : ∃ (ns : List Int) (t : Int), H b = some (boxD c t) ∧ H c = some (.lst (ns.map V.int)) ∧ ns ≠ [] ∧ ns.length ≤ 63 ∧ 0 ≤ t ∧ t ≤ T
theorem Box.ne {H : Hp} {b c : Addr} {T : Int} (x : Box H b c T) : b ≠ c := by
  obtain ⟨ns, t, h1, h2, _⟩ := x.ex
  exact ne_of h1 h2 (by unfold boxD; intro z; cases z)
theorem Box.hb {H : Hp} {b c : Addr} {T : Int} (x : Box H b c T) : H b ≠ none := by obtain ⟨ns, t, h1, h2, _⟩ := x.ex; rw [h1]; simp
theorem Box.hc {H : Hp} {b c : Addr} {T : Int} (x : Box H b c T) : H c ≠ none := by obtain ⟨ns, t, h1, h2, _⟩ := x.ex; rw [h2]; simp
theorem Box.mono {H : Hp} {b c : Addr} {T T' : Int} (x : Box H b c T) (h : T ≤ T') : Box H b c T' := by
  obtain ⟨ns, t, h1, h2, h3, h4, h5, h6⟩ := x.ex; exact ⟨ns, t, h1, h2, h3, h4, h5, by omega⟩
theorem Box.of {H H' : Hp} {b c : Addr} {T : Int} (x : Box H b c T) (hb : H' b = H b) (hc : H' c = H c) : Box H' b c T := by
  obtain ⟨ns, t, h1, h2, h3⟩ := x.ex; exact ⟨ns, t, hb.trans h1, hc.trans h2, h3⟩
theorem Box.new {H : Hp} {b c p : Addr} {T : Int} {o : HO} (x : Box H b c T) (hp : H p = none) : Box (upd H p o) b c T :=
  x.of (upd_ne fun e => x.hb (by rw [e]; exact hp)) (upd_ne fun e => x.hc (by rw [e]; exact hp))
theorem Box.upd {H : Hp} {b c p : Addr} {T : Int} {o : HO} (x : Box H b c T) (h1 : p ≠ b) (h2 : p ≠ c) : Box (upd H p o) b c T := x.of (upd_ne h1.symm) (upd_ne h2.symm)
def Small (m : Int) : Prop := m.natAbs.log2 < 9000
theorem small_of {m : Int} (h : m.natAbs < 2 ^ 200) : Small m := by
  unfold Small
  by_cases h0 : m.natAbs = 0
  · rw [h0]; decide
  · exact Nat.lt_of_lt_of_le ((Nat.log2_lt h0).mpr h) (by decide)
def spTake : Sp := fun vs H Q _ => match vs with
  | [.ref b, .int m] => ∃ c T, Box H b c T ∧ Pl H ∧ 1 ≤ m ∧ Small m ∧ T < 1000000000 ∧ ∀ d H', 0 ≤ d → d < m → Box H' b c (T + 1) → Chg [b, c] H H' → Pl H' → Q (.int d) H'
  | _ => False
def spBegin (K : PySem.W.Frag) : Sp := fun vs H Q _ => match vs with
  | [.ref a] => ∃ ns : List Int, SqL K H a (ns.map V.int) ∧ ns.length ≤ 63 ∧ Pl H ∧ ∀ b c H', H b = none → H c = none → Box H' b c 0 → Chg [b, c] H H' → Pl H' → Q (.ref b) H'
  | _ => False
theorem mulOk {i j : Int} (h : i.natAbs < 2 ^ 62 ∨ j.natAbs < 2 ^ 62) : IntMulOk i j := by
  rcases h with h | h
  · exact .of_left (intBits_le_64 (by omega) (by omega))
  · exact .of_right (intBits_le_64 (by omega) (by omega))
end M

namespace M
open PySem L2
section
variable {H : Hp} {Q : VK} {i j : Int} {a b p : Addr} {x y z : Str} {u : V} {xs ys : List V} {K : PySem.W.Frag} {R : V → Prop} {S : HO → Prop} {N : Nat → Prop} {B : Bool → Prop} {L : List V → Prop} {kvs : List (Key × V)} {c1 c2 : Bool} {n : Nat} {P1 P2 : Prop} {lo hi : Option Int}
theorem e_add_ii : rAddX (.int i) (.int j) H Q = Q (.int (i + j)) H := rfl
theorem e_add_ss : rAddX (.str x) (.str y) H Q = (x.length + y.length ≤ sizeLine ∧ Q (.str (x ++ y)) H) := rfl
theorem e_add_rr : rAddX (.ref a) (.ref b) H Q = catO (H a) (H b) fun o => ∀ p, H p = none → Q (.ref p) (upd H p o) := rfl
theorem e_cat : catO (some (.lst xs)) (some (.lst ys)) S = (xs.length + ys.length ≤ sizeLine ∧ S (.lst (xs ++ ys))) := rfl
theorem e_mul_ii : rMulX (.int i) (.int j) H Q = (IntMulOk i j ∧ Q (.int (i * j)) H) := rfl
theorem e_mul_ri : rMulX (.ref a) (.int j) H Q = repO (H a) j fun o => ∀ q, H q = none → Q (.ref q) (upd H q o) := rfl
theorem e_rep : repO (some (.lst xs)) j S = (-(2 ^ 63) ≤ j ∧ j < 2 ^ 63 ∧ xs.length * j.toNat ≤ sizeLine ∧ S (.lst (List.replicate j.toNat xs).flatten)) := rfl
theorem e_ix_s : rIxX (.str z) (.int i) H Q = (z.length ≤ sizeLine ∧ ∃ c, atI z.cps.toList i = some c ∧ Q (.str ⟨#[c]⟩) H) := rfl
theorem e_ix_r : rIxX (.ref p) u H Q = ixO (H p) u fun v => Q v H := rfl
theorem e_ixO_l : ixO (some (.lst xs)) (.int i) R = ∃ v, atI xs i = some v ∧ R v := rfl
theorem e_ixO_t : ixO (some (.tup xs)) (.int i) R = ∃ v, atI xs i = some v ∧ R v := rfl
theorem e_setX {v : V} {D : Hp → Prop} : setX (.ref p) u v H D = setO (H p) u v fun ho => D (upd H p ho) := rfl
theorem e_setO_l {v : V} : setO (some (.lst xs)) (.int i) v S = ∃ j, ixN xs.length i = some j ∧ S (.lst (xs.set j v)) := rfl
theorem e_gTup {t : TGs} {s : L2.St} {D : L2.St → Hp → Prop} : gTupX n t (.ref a) s H D = gTupO (H a) n fun xs => t xs s H D := rfl
theorem e_gTupO : gTupO (some (.tup xs)) n L = (xs.length = n ∧ L xs) := rfl
theorem e_len_s : lenX [.str z] H Q = (z.length ≤ sizeLine ∧ Q (.int z.length) H) := rfl
theorem e_len_r : lenX [.ref p] H Q = lenO (H p) fun n => Q (.int n) H := rfl
theorem e_lenO_l : lenO (some (.lst xs)) N = N xs.length := rfl
theorem e_lenO_t : lenO (some (.tup xs)) N = N xs.length := rfl
theorem e_lenO_d : lenO (some (.dK kvs)) N = N kvs.length := rfl
theorem e_abs : absX [.int i] H Q = Q (.int (i.natAbs : Int)) H := rfl
theorem e_max : maxX [.int i, .int j] H Q = Q (.int (if j > i then j else i)) H := rfl
theorem e_min : minX [.int i, .int j] H Q = Q (.int (if j < i then j else i)) H := rfl
theorem e_int_i : intX [.int i] H Q = Q (.int i) H := rfl
theorem e_int_b : intX [.bl c1] H Q = Q (.int (if c1 then 1 else 0)) H := rfl
theorem e_int_s : intX [.str z] H Q = ∃ n, PySem.intText? z = some n ∧ z.length ≤ 640 ∧ Q (.int n) H := rfl
theorem e_listO_l : listO (some (.lst xs)) L = L xs := rfl
theorem e_listO_t : listO (some (.tup xs)) L = L xs := rfl
theorem e_divmod : divmodX [.int i, .int j] H Q = (CDivL i j ∧ ∀ p, H p = none → Q (.ref p) (upd H p (.tup [.int (i.fdiv j), .int (i.fmod j)]))) := rfl
theorem e_all : allX [.ref p] H Q = ∃ bs : List Bool, H p = some (.lst (bs.map V.bl)) ∧ Q (.bl (bs.all id)) H := rfl
theorem e_isi {T : String} : isiX [u, .ty T] H Q = (T ∈ askd ∧ ∃ t, tyN H u = some t ∧ Q (.bl (isTab t T)) H) := rfl
theorem e_eq_ii : rEqX K (.int i) (.int j) H Q = Q (.bl (decide (i = j))) H := rfl
theorem e_eq_ss : rEqX K (.str x) (.str y) H Q = Q (.bl (decide (x = y))) H := rfl
theorem e_eq_bb : rEqX K (.bl c1) (.bl c2) H Q = Q (.bl (decide (c1 = c2))) H := rfl
theorem e_ne_ii : rNeX K (.int i) (.int j) H Q = Q (.bl (!decide (i = j))) H := rfl
theorem e_ne_ss : rNeX K (.str x) (.str y) H Q = Q (.bl (!decide (x = y))) H := rfl
theorem e_ne_bb : rNeX K (.bl c1) (.bl c2) H Q = Q (.bl (!decide (c1 = c2))) H := rfl
theorem e_tru_n {D : Bool → Hp → Prop} : truX .non H D = D false H := rfl
theorem e_tru_b {D : Bool → Hp → Prop} : truX (.bl c1) H D = D c1 H := rfl
theorem e_tru_i {D : Bool → Hp → Prop} : truX (.int i) H D = D (i != 0) H := rfl
theorem e_tru_s {D : Bool → Hp → Prop} : truX (.str z) H D = (z.length ≤ sizeLine ∧ D ((z.length : Int) != 0) H) := rfl
theorem e_tru_r {D : Bool → Hp → Prop} : truX (.ref p) H D = truO (H p) fun b => D b H := rfl
theorem e_truO_l : truO (some (.lst xs)) B = B (!xs.isEmpty) := rfl
theorem e_truO_t : truO (some (.tup xs)) B = B (!xs.isEmpty) := rfl
theorem e_sl_s : rSlX (.str z) lo hi H Q = (z.length ≤ sizeLine ∧ Q (.str (cutS z lo hi)) H) := rfl
theorem e_sl_r : rSlX (.ref p) lo hi H Q = slO (H p) fun xs => ∀ q, H q = none → Q (.ref q) (upd H q (.lst (cutV xs lo hi))) := rfl
theorem e_slO : slO (some (.lst xs)) L = L xs := rfl
theorem e_app : appX (.ref p) [u] H Q = appO (H p) u fun o => Q .non (upd H p o) := rfl
theorem e_appO : appO (some (.lst xs)) u S = (xs.length < sizeLine ∧ S (.lst (xs ++ [u]))) := rfl
theorem e_rev : revX (.ref p) [] H Q = revO (H p) fun o => Q .non (upd H p o) := rfl
theorem e_revO : revO (some (.lst xs)) S = S (.lst xs.reverse) := rfl
theorem e_tyX_l : tyX "list" (.ref p) H = tyXO (H p) "list" := rfl
theorem e_tyXO_l : tyXO (some (.lst xs)) "list" = True := propext ⟨fun _ => trivial, fun _ => rfl⟩
theorem e_tyX_s {T : String} : tyX T (.str z) H = (T = "str") := rfl
theorem e_iO_l : iO (some (.lst xs)) P1 P2 = P1 := rfl
theorem e_iO_t : iO (some (.tup xs)) P1 P2 = P2 := rfl
theorem e_upd_same {o : HO} : upd H a o a = some o := upd_same
theorem e_upd_ne {o : HO} (h : b ≠ a) : upd H a o b = H b := upd_ne h
theorem e_isN_n : decide ((V.non : V) = .non) = true := rfl
theorem e_isN_i : decide (V.int i = .non) = false := rfl
theorem e_isN_b : decide (V.bl c1 = .non) = false := rfl
theorem e_isN_s : decide (V.str z = .non) = false := rfl
theorem e_isN_r : decide (V.ref p = .non) = false := rfl
theorem e_non : ((V.non = V.non) ∧ P1) = P1 := propext ⟨fun h => h.2, fun h => ⟨rfl, h⟩⟩
theorem e_tyN_i : tyN H (.int i) = some "int" := rfl
theorem e_tyN_b : tyN H (.bl c1) = some "bool" := rfl
theorem e_tyN_s : tyN H (.str z) = some "str" := rfl
theorem e_tyN_n : tyN H .non = some "NoneType" := rfl
theorem e_tyN_r : tyN H (.ref p) = tyO (H p) := rfl
theorem e_tyO_l : tyO (some (.lst xs)) = some "list" := rfl
theorem e_tyO_t : tyO (some (.tup xs)) = some "tuple" := rfl
theorem e_tyO_d : tyO (some (.dK kvs)) = some "dict" := rfl
theorem ex_str {t : String} {D : String → Prop} : (∃ s, some t = some s ∧ D s) = D t := propext ⟨fun ⟨_, e, h⟩ => by cases e; exact h, fun h => ⟨_, rfl, h⟩⟩
theorem ex_v {v : V} {D : V → Prop} : (∃ s, some v = some s ∧ D s) = D v := propext ⟨fun ⟨_, e, h⟩ => by cases e; exact h, fun h => ⟨_, rfl, h⟩⟩
theorem str_ct : ¬ (Str.ofString "cells" = Str.ofString "turn") := by decide +kernel
theorem e_box_turn {t : Int} {c : Addr} : ixO (some (boxD c t)) (.str (Str.ofString "turn")) R = R (.int t) := by
  have e : valV [((Sum.inr (Str.ofString "cells") : Key), V.ref c), (Sum.inr (Str.ofString "turn"), V.int t)] (Sum.inr (Str.ofString "turn")) = some (V.int t) := by
    unfold valV
    rw [List.find?_cons_of_neg (by simp [str_ct]), List.find?_cons_of_pos (by simp)]
    rfl
  show (∃ v, valV [((Sum.inr (Str.ofString "cells") : Key), V.ref c), (Sum.inr (Str.ofString "turn"), V.int t)] (Sum.inr (Str.ofString "turn")) = some v ∧ R v) = _
  rw [e, ex_v]
theorem e_box_cells {t : Int} {c : Addr} : ixO (some (boxD c t)) (.str (Str.ofString "cells")) R = R (.ref c) := by
  have e : valV [((Sum.inr (Str.ofString "cells") : Key), V.ref c), (Sum.inr (Str.ofString "turn"), V.int t)] (Sum.inr (Str.ofString "cells")) = some (V.ref c) := by
    unfold valV
    rw [List.find?_cons_of_pos (by simp)]
    rfl
  show (∃ v, valV [((Sum.inr (Str.ofString "cells") : Key), V.ref c), (Sum.inr (Str.ofString "turn"), V.int t)] (Sum.inr (Str.ofString "cells")) = some v ∧ R v) = _
  rw [e, ex_v]
theorem e_box_put {t t' : Int} {c : Addr} : setO (some (boxD c t)) (.str (Str.ofString "turn")) (.int t') S = S (boxD c t') := by
  have e : putK [((Sum.inr (Str.ofString "cells") : Key), V.ref c), (Sum.inr (Str.ofString "turn"), V.int t)] (Sum.inr (Str.ofString "turn")) (.int t') = [((Sum.inr (Str.ofString "cells") : Key), V.ref c), (Sum.inr (Str.ofString "turn"), V.int t')] := by
    unfold putK
    simp [str_ct]
  show (2 < sizeLine ∧ S (.dK (putK [((Sum.inr (Str.ofString "cells") : Key), V.ref c), (Sum.inr (Str.ofString "turn"), V.int t)] (Sum.inr (Str.ofString "turn")) (.int t')))) = _
  rw [e]
  exact propext ⟨fun h => h.2, fun h => ⟨by decide, h⟩⟩
end
end M
namespace M
open PySem L2
theorem ixN_in {n : Nat} {i : Int} (h0 : 0 ≤ i) (h1 : i < n) : ixN n i = some i.toNat := by unfold ixN; rw [if_pos h0, if_pos h1]
theorem at_in {α : Type} {xs : List α} {i : Int} {x : α} (h0 : 0 ≤ i) (h1 : xs[i.toNat]? = some x) : atI xs i = some x := by
  have : i.toNat < xs.length := (List.getElem?_eq_some_iff.mp h1).1
  unfold atI
  rw [ixN_in h0 (by omega)]
  exact h1
theorem at_ints {ns : List Int} {i : Int} (h0 : 0 ≤ i) (h1 : i < ns.length) : ∃ n, atI (ns.map V.int) i = some (V.int n) ∧ ns[i.toNat]? = some n := by
  have h : i.toNat < ns.length := by omega
  exact ⟨ns[i.toNat], at_in h0 (by simp [h]), by simp [h]⟩
theorem fm_nn (x : Int) {m : Int} (h : 0 < m) : 0 ≤ x.fmod m := Int.fmod_nonneg_of_pos x h
theorem fm_lt (x : Int) {m : Int} (h : 0 < m) : x.fmod m < m := Int.fmod_lt_of_pos x h
theorem mul_fm {x y m : Int} (h : 0 < m) (h' : m < 4611686018427387904) : IntMulOk (x.fmod m) y := mulOk (.inl (by
  have a := fm_nn x h
  have b := fm_lt x h
  have e : (2 : Nat) ^ 62 = 4611686018427387904 := by decide
  omega))
theorem mul_l {x y : Int} (h1 : -4611686018427387904 < x) (h2 : x < 4611686018427387904) : IntMulOk x y := mulOk (.inl (by
  have e : (2 : Nat) ^ 62 = 4611686018427387904 := by decide
  omega))
theorem mul_r {x y : Int} (h1 : -4611686018427387904 < y) (h2 : y < 4611686018427387904) : IntMulOk x y := mulOk (.inr (by
  have e : (2 : Nat) ^ 62 = 4611686018427387904 := by decide
  omega))
theorem set_ints {ns : List Int} {k : Nat} {z : Int} : (ns.map V.int).set k (V.int z) = (ns.set k z).map V.int := by rw [List.map_set]
theorem Box.mk' {H : Hp} {b c : Addr} {T t : Int} {ns : List Int} (h1 : H b = some (boxD c t)) (h2 : H c = some (.lst (ns.map V.int))) (h3 : ns ≠ []) (h4 : ns.length ≤ 63) (h5 : 0 ≤ t) (h6 : t ≤ T) : Box H b c T := ⟨ns, t, h1, h2, h3, h4, h5, h6⟩
end M
namespace M
open PySem L2
theorem bt_len : bootBuiltins "len" = some (.builtin "len") := by decide +kernel
theorem bt_abs : bootBuiltins "abs" = some (.builtin "abs") := by decide +kernel
theorem bt_max : bootBuiltins "max" = some (.builtin "max") := by decide +kernel
theorem bt_min : bootBuiltins "min" = some (.builtin "min") := by decide +kernel
theorem bt_divmod : bootBuiltins "divmod" = some (.builtin "divmod") := by decide +kernel
theorem bt_isinstance : bootBuiltins "isinstance" = some (.builtin "isinstance") := by decide +kernel
theorem bt_all : bootBuiltins "all" = some (.builtin "all") := by decide +kernel
theorem bt_int : bootBuiltins "int" = some (.type "int") := by decide +kernel
theorem bt_list : bootBuiltins "list" = some (.type "list") := by decide +kernel
theorem bt_str : bootBuiltins "str" = some (.type "str") := by decide +kernel
theorem bt_tuple : bootBuiltins "tuple" = some (.type "tuple") := by decide +kernel
theorem bt_bool : bootBuiltins "bool" = some (.type "bool") := by decide +kernel
end M
namespace M
open PySem L2
theorem upd_keep {H : Hp} {p a : Addr} {o u : HO} (hp : H p = none) (e : H a = some u) : upd H p o a = some u := by rw [upd_ne (ne_of_none e hp)]; exact e
theorem upd_none {H : Hp} {p a : Addr} {o : HO} (h : upd H p o a = none) : H a = none ∧ a ≠ p := by
  rw [upd_app] at h
  split at h
  · cases h
  · rename_i e; exact ⟨h, e⟩
theorem cut_all {xs : List V} {n : Int} (h0 : 0 ≤ n) (h : (xs.length : Int) ≤ n) : cutV xs none (some n) = xs := by
  unfold cutV
  have e1 : HT.sIx xs.length 0 none = 0 := by simp [HT.sIx]
  have e2 : HT.sIx xs.length xs.length (some n) = xs.length := by simp only [HT.sIx]; rw [if_neg (by omega)]; omega
  rw [e1, e2]
  simp
theorem box_merge {c : Addr} {t : Int} : mergeK [] [((Sum.inr (Str.ofString "cells") : Key), V.ref c), (Sum.inr (Str.ofString "turn"), V.int t)] = [((Sum.inr (Str.ofString "cells") : Key), V.ref c), (Sum.inr (Str.ofString "turn"), V.int t)] := by
  unfold mergeK
  simp [putK, str_ct]
end M

namespace M
open PySem L2
def flt : V → Bool
  | .non => true
  | .bl _ => true
  | .int _ => true
  | .str _ => true
  | _ => false
def Sm (H : Hp) : Nat → V → V → Prop
  | 0, _, _ => False
  | n + 1, x, y => (x = y ∧ flt x = true) ∨
      (∃ a b xs ys, x = .ref a ∧ y = .ref b ∧ H a = some (.lst xs) ∧ H b = some (.lst ys) ∧ xs.length = ys.length ∧ xs.length ≤ 1000000 ∧ ∀ (i : Nat) (x y : V), xs[i]? = some x → ys[i]? = some y → Sm H n x y) ∨
      ∃ a b xs ys, x = .ref a ∧ y = .ref b ∧ H a = some (.tup xs) ∧ H b = some (.tup ys) ∧ xs.length = ys.length ∧ xs.length ≤ 1000000 ∧ ∀ (i : Nat) (x y : V), xs[i]? = some x → ys[i]? = some y → Sm H n x y
theorem Sm.kp {H H' : Hp} (k : Kp [] H H') : ∀ {n : Nat} {x y : V}, Sm H n x y → Sm H' n x y
  | 0, _, _, h => h.elim
  | n + 1, x, y, h => by
    rcases h with h | ⟨a, b, xs, ys, e1, e2, h1, h2, h3, hz, h4⟩ | ⟨a, b, xs, ys, e1, e2, h1, h2, h3, hz, h4⟩
    · exact .inl h
    · exact .inr (.inl ⟨a, b, xs, ys, e1, e2, k a _ (by simp) h1, k b _ (by simp) h2, h3, hz, fun i x y hx hy => Sm.kp k (h4 i x y hx hy)⟩)
    · exact .inr (.inr ⟨a, b, xs, ys, e1, e2, k a _ (by simp) h1, k b _ (by simp) h2, h3, hz, fun i x y hx hy => Sm.kp k (h4 i x y hx hy)⟩)
def spSame : Nat → Sp
  | 0 => fun _ _ _ _ => False
  | n + 1 => fun vs H Q _ => match vs with
    | [x, y] => Sm H (n + 1) x y ∧ Pl H ∧ Q (.bl true) H
    | _ => False
theorem cal_false {P : Program} {w : World} {K : PySem.W.Frag} {mg : Str → Option Value} {base : Heap} {x : Str} {st : Stmt} {ps : List Str} (F : Fn K mg x st ps) : Cal P w K mg base x 0 ps (fun _ _ _ _ => False) := by
  obtain ⟨f, fd, F, hm, hb⟩ := F.ex
  exact ⟨f, fd, ⟨fun _ _ _ _ h => h.elim, fun _ _ _ _ _ _ _ _ _ _ _ _ _ h => h.elim⟩, hm, F.kp, hb⟩
theorem isi_lt {H : Hp} {u : V} {p : Addr} {Q : VK} {t : String} (hp : H p = some (.tup [.ty "list", .ty "tuple"])) (ht : tyN H u = some t) (q : Q (.bl (isTab t "list" || isTab t "tuple")) H) : isiX [u, .ref p] H Q :=
  ⟨["list", "tuple"], by decide, by decide, hp, t, ht, by simpa using q⟩
end M
namespace M
open PySem L2
theorem spSame_of {n : Nat} {vs : List V} {H : Hp} {Q : VK} {E : XK} (h : spSame (n + 1) vs H Q E) : ∃ x y, vs = [x, y] ∧ Sm H (n + 1) x y ∧ Pl H ∧ Q (.bl true) H :=
  match vs, h with
  | [x, y], h => ⟨x, y, rfl, h⟩
theorem e_same {n : Nat} {x y : V} {H : Hp} {Q : VK} {E : XK} : spSame (n + 1) [x, y] H Q E = (Sm H (n + 1) x y ∧ Pl H ∧ Q (.bl true) H) := rfl
end M
namespace M
open PySem L2
theorem pe_tyN {X : Cx} {x : Str} {n : String} {pos : Pos} (hg : Gl X x) (hm : X.mg x = none) (hv : bootBuiltins x = some (.type n)) (hn : x ≠ "__name__" := by decide) (hd : (x == ("__debug__" : Str)) = false := by decide) : PE X (.Name x pos) (tC (.ty n)) := pe_bltn hg hm hv (show RelV (.ty n) (.type n) from rfl) hn hd
end M
namespace M
open PySem L2
section
variable {H : Hp} {Q : VK} {u : V} {p : Addr}
theorem m_bool : ("bool" ∈ askd) = True := by decide
theorem m_int : ("int" ∈ askd) = True := by decide
theorem m_str : ("str" ∈ askd) = True := by decide
theorem m_list : ("list" ∈ askd) = True := by decide
theorem m_tuple : ("tuple" ∈ askd) = True := by decide
theorem m_dict : ("dict" ∈ askd) = True := by decide
theorem tys_inj : ∀ {Ts Us : List String}, Ts.map V.ty = Us.map V.ty → Ts = Us
  | [], [], _ => rfl
  | [], _ :: _, h => by simp at h
  | _ :: _, [], h => by simp at h
  | T :: Ts, U :: Us, h => by
    simp only [List.map_cons, List.cons.injEq, V.ty.injEq] at h
    rw [h.1, tys_inj h.2]
theorem e_isi_lt : isiX [u, .ref p] (upd H p (.tup [.ty "list", .ty "tuple"])) Q = ∃ t, tyN (upd H p (.tup [.ty "list", .ty "tuple"])) u = some t ∧ Q (.bl (isTab t "list" || isTab t "tuple")) (upd H p (.tup [.ty "list", .ty "tuple"])) := by
  refine propext ⟨fun h => ?_, fun ⟨t, ht, q⟩ => isi_lt upd_same ht q⟩
  obtain ⟨Ts, _, _, hp, t, ht, q⟩ := h
  rw [upd_same] at hp
  have e : Ts = ["list", "tuple"] := by
    injection hp with hp
    injection hp with hp
    exact (tys_inj (Us := ["list", "tuple"]) (Ts := Ts) hp.symm)
  subst e
  exact ⟨t, ht, by simpa using q⟩
theorem told_pure {H H' : Hp} {Q : VK} {v : V} (hpl : Pl H') (hk : Kp [] H H') (h : Q v H) : Told H Q v H' := told [] [] hpl hk fun H2 hch _ _ => by
  have e : H2 = H := Chg.eq (by simpa using hch)
  rw [e]; exact h
theorem bl_all (n : Nat) : (List.replicate n true).all id = true := by simp
theorem rep_snoc (n : Nat) : (List.replicate n true).map V.bl ++ [V.bl true] = (List.replicate (n + 1) true).map V.bl := by
  rw [List.replicate_succ', List.map_append]; rfl
end
end M
namespace M
open PySem L2
theorem take_ok {H : Hp} {b c : Addr} {T m : Int} {Q : VK} {E : XK} (hbx : Box H b c T) (hpl : Pl H) (hm : 1 ≤ m) (hs : Small m) (hT : T < 1000000000)
    (k : ∀ d H', 0 ≤ d → d < m → Box H' b c (T + 1) → Chg [b, c] H H' → Pl H' → Q (.int d) H') : spTake [.ref b, .int m] H Q E := ⟨c, T, hbx, hpl, hm, hs, hT, k⟩
theorem sm_of {m : Int} (h1 : -1606938044258990275541962092341162602522202993782792835301376 < m) (h2 : m < 1606938044258990275541962092341162602522202993782792835301376) : Small m := small_of (by
  have e : (2 : Nat) ^ 200 = 1606938044258990275541962092341162602522202993782792835301376 := by decide
  omega)
def spLaw (K : PySem.W.Frag) : Sp := fun vs H Q _ => match vs with
  | [.ref a] => ∃ ns : List Int, SqL K H a (ns.map V.int) ∧ ns.length ≤ 63 ∧ Pl H ∧ ∀ H', Q (.bl true) H'
  | _ => False
theorem spLaw_of {K : PySem.W.Frag} {H : Hp} {a : Addr} {ns : List Int} (hl : ns.length ≤ 63) (hO : Only H) (hS : SqL K H a (ns.map V.int)) : spLaw K [.ref a] H (fun v _ => v = .bl true) fun _ _ _ => False :=
  ⟨ns, hS, hl, fun b o e => by
    rcases hO b with z | ⟨ob, xs, z⟩
    · rw [z] at e; cases e
    · rw [z] at e; cases e; rfl, fun _ => rfl⟩
theorem begin_ok {K : PySem.W.Frag} {H : Hp} {a : Addr} {ns : List Int} {Q : VK} {E : XK} (hS : SqL K H a (ns.map V.int)) (hl : ns.length ≤ 63) (hpl : Pl H)
    (k : ∀ b c H', H b = none → H c = none → Box H' b c 0 → Chg [b, c] H H' → Pl H' → Q (.ref b) H') : spBegin K [.ref a] H Q E := ⟨ns, hS, hl, hpl, k⟩
theorem at_0 {x : V} {l : List V} : atI (x :: l) 0 = some x := at_in (by omega) rfl
theorem at_1 {x y : V} {l : List V} : atI (x :: y :: l) 1 = some y := at_in (by omega) rfl
end M
namespace M
open PySem L2 PyProof.Rows
theorem okF {P : Program} {w : World} {K : PySem.W.Frag} {mg : Str → Option Value} {base : Heap} {x : Str} {st : Stmt} {N ps : List Str} {k : Nat} {sp : Sp} {f : Addr} {fd : FuncData} (F : Fun K x x st f fd) (S : FnScope N ps (defScope st)) (len : ∀ vs H Q E, sp vs H Q E → vs.length = ps.length)
    (hbody : ∀ (cdv : Value) (A : Around) (outer : List Env) (s : Shared) (H : Hp) (vs : List V) (Q : VK) (E : XK), Room k (A.deeper (envOfC x (defScope st) s.heap.objs.size f cdv)) → sp vs H Q E →
      ∃ t, PSs (cxOf CX0 P w K mg base N x (defScope st) f cdv A outer s H E).nox (defBody st) t ∧ t { nx := fun _ H' => Told H Q .non H', rt := Told H Q } (start N vs) H) : FnOk P w K mg base CX0 (k + 1) f fd ps sp := by
  obtain ⟨oc, od, kV, doc, pm, an, cdv, ct, osl, rfl, lk, hcd⟩ := F.ex
  refine fn_ofF lk hcd S len fun A outer s H vs Q E hr hsp => ?_
  obtain ⟨t, h, q⟩ := hbody cdv A outer s H vs Q E hr hsp
  exact ⟨t, h.nox, q⟩
end M
namespace M
open PySem L2 PyProof.Rows
def tCut (t u : TS) : TS := fun D σ H => ∃ M : L2.St → Hp → Prop, t { D with nx := M } σ H ∧ ∀ σ' H', M σ' H' → u D σ' H'
theorem pss_consC {X : Cx} {st : Stmt} {rest : List Stmt} {t u : TS} (h1 : PS X st t) (h2 : PSs X rest u) : PSs X (st :: rest) (tCut t u) := by
  intro pins s σ H D I h
  obtain ⟨M, h, hM⟩ := h
  refine wpAny_execs_cons (thn (h1 pins s σ H { D with nx := M } I h) fun f s1 q => ?_)
  cases f with
  | next =>
    obtain ⟨σ', H', I', q⟩ := q
    exact h2 pins s1 σ' H' D I' (hM σ' H' q)
  | ret v => exact q
  | brk => exact q
  | cont => exact q
theorem e_cut {t u : TS} {D : Ends} {σ : L2.St} {H : Hp} (M : L2.St → Hp → Prop) (h : t { D with nx := M } σ H) (hM : ∀ σ' H', M σ' H' → u D σ' H') : tCut t u D σ H := ⟨M, h, hM⟩
end M

namespace M
open PySem L2 PySem.W PySem.Builtin.Int
abbrev bits (x : Int) : Nat := Builtin.Int.intBits x
theorem small_bits {x : Int} (h : bits x ≤ 9000) : Small x := by
  unfold Small
  unfold bits Builtin.Int.intBits at h
  split at h
  · rename_i e
    have : x = 0 := by simpa using e
    subst this
    decide
  · omega
theorem bits_of {x : Int} {n : Nat} (h : x.natAbs < 2 ^ n) : bits x ≤ n := intBits_le_iff.mpr h
theorem bits_64 {x : Int} (h1 : -18446744073709551616 < x) (h2 : x < 18446744073709551616) : bits x ≤ 64 := bits_of (by
  have e : (2 : Nat) ^ 64 = 18446744073709551616 := by decide
  omega)
theorem bits_mono {x : Int} {m n : Nat} (h : bits x ≤ m) (h' : m ≤ n) : bits x ≤ n := Nat.le_trans h h'
theorem bits_fdiv {x y : Int} {m : Nat} (hx : bits x ≤ m) : bits (x.fdiv y) ≤ m := intBits_fdiv_le hx
structure Red (t b T B : Int) : Prop where
  pos : 1 ≤ b
  cop : Int.gcd t b = 1
  eq : t * B = T * b
theorem dvd_cop {k n m : Int} (h : k ∣ n * m) (hg : Int.gcd k n = 1) : k ∣ m := by
  have := Int.dvd_gcd_mul_iff_dvd_mul.mpr h
  rw [hg] at this
  simpa using this
theorem take_snoc {α : Type} {l : List α} {i : Nat} {x : α} (h : l[i]? = some x) : l.take (i + 1) = l.take i ++ [x] := by
  rw [List.take_succ, h]; rfl
structure Parts (H : Hp) (rs : List Addr) (ps : List (Int × Int)) : Prop where
  len : rs.length = ps.length
  at' : ∀ (i : Nat) (r : Addr) (p : Int × Int), rs[i]? = some r → ps[i]? = some p → H r = some (.tup [.int p.1, .int p.2])
theorem Parts.kp {H H' : Hp} {rs : List Addr} {ps : List (Int × Int)} (x : Parts H rs ps) (k : Kp [] H H') : Parts H' rs ps := ⟨x.len, fun i r p h1 h2 => k r _ (by simp) (x.at' i r p h1 h2)⟩
theorem Parts.nil {H : Hp} : Parts H [] [] := ⟨rfl, fun i r p h => by simp at h⟩
theorem Parts.snoc {H : Hp} {rs : List Addr} {ps : List (Int × Int)} {r : Addr} {p : Int × Int} (x : Parts H rs ps) (h : H r = some (.tup [.int p.1, .int p.2])) : Parts H (rs ++ [r]) (ps ++ [p]) := by
  refine ⟨by simp [x.len], fun i r' p' h1 h2 => ?_⟩
  by_cases hi : i < rs.length
  · rw [List.getElem?_append_left hi] at h1
    rw [List.getElem?_append_left (by rw [← x.len]; exact hi)] at h2
    exact x.at' i r' p' h1 h2
  · have l1 := x.len
    rw [List.getElem?_append_right (by omega)] at h1
    rw [List.getElem?_append_right (by omega)] at h2
    have e : i - rs.length = 0 := by
      have := (List.getElem?_eq_some_iff.mp h1).1
      simp at this; omega
    have e' : i - ps.length = 0 := by omega
    rw [e] at h1; rw [e'] at h2
    simp at h1 h2
    subst h1 h2
    exact h
end M

namespace M
open PySem L2
section
variable {K : PySem.W.Frag} {g : TG} {tb : TS} {D : Ends} {σ : L2.St} {H : Hp}
def itB (K : PySem.W.Frag) (J : It) (g : TG) (tb : TS) (D : Ends) (σ : L2.St) (H1 : Hp) : Prop := ∃ W : Nat → Nat → L2.St → Hp → Prop, (∃ m, W 0 m σ H1) ∧ ∀ i m σ H, W i m σ H →
  (J.stop i H ∧ D.nx σ H) ∨ (J.go i H ∧ ∃ N : L2.St → Hp → Prop, (∀ σ' H', N σ' H' → ∃ m', m' < m ∧ W (i + 1) m' σ' H') ∧ ∀ x H', J.yld i H x H' → g x σ H' fun σ2 H2 => tb { D with nx := N, ct := N, bk := D.nx } σ2 H2)
def forB (K : PySem.W.Frag) (g : TG) (tb : TS) (D : Ends) (σ : L2.St) (x : V) (H1 : Hp) : Prop := match x with
  | .str z => itB K (Its z) g tb D σ H1
  | .ref a => iO (H1 a) (itB K (Itl K a) g tb D σ H1) (itB K (Itt K a) g tb D σ H1)
  | _ => False
theorem e_for {te : TE} : tFor (iX K te) g tb D σ H = te σ H fun x H1 => forB K g tb D σ x H1 := rfl
theorem forB_str {z : Str} (Pv : Nat → L2.St → Hp → Prop) (h0 : Pv 0 σ H)
    (hs : ∀ i c σ H, z.cps[i]? = some c → Pv i σ H → g (.str ⟨#[c]⟩) σ H fun σ2 H2 => tb { D with nx := Pv (i + 1), ct := Pv (i + 1), bk := D.nx } σ2 H2) (hd : ∀ σ H, Pv z.cps.size σ H → D.nx σ H) : forB K g tb D σ (.str z) H := by
  refine ⟨fun i m σ H => m = z.cps.size - i ∧ i ≤ z.cps.size ∧ Pv i σ H, ⟨z.cps.size, by simp, Nat.zero_le _, h0⟩, ?_⟩
  rintro i m σ H ⟨rfl, hi, p⟩
  by_cases hlt : i < z.cps.size
  · refine .inr ⟨hlt, Pv (i + 1), fun σ' H' p' => ⟨z.cps.size - (i + 1), by omega, rfl, hlt, p'⟩, fun x H' y => ?_⟩
    obtain ⟨e, c, hc, rfl⟩ := y
    subst e
    exact hs i c σ _ hc p
  · have e : i = z.cps.size := by omega
    subst e
    exact .inl ⟨Nat.le_refl _, hd σ H p⟩
def forR1 (g : TG) (tb : TS) (D : Ends) (σ : L2.St) (x : V) (H : Hp) : Prop := tFor (iRng1 (tCons (tC x) tNil)) g tb D σ H
def forR2 (g : TG) (tb : TS) (D : Ends) (σ : L2.St) (x y : V) (H : Hp) : Prop := tFor (iRng2 (tCons (tC x) (tCons (tC y) tNil))) g tb D σ H
theorem e_forR1 {ta : TE} : tFor (iRng1 (tCons ta tNil)) g tb D σ H = ta σ H fun x H1 => forR1 g tb D σ x H1 := rfl
theorem e_forR2 {ta tc : TE} : tFor (iRng2 (tCons ta (tCons tc tNil))) g tb D σ H = ta σ H fun x H1 => tc σ H1 fun y H2 => forR2 g tb D σ x y H2 := rfl
theorem forR_ok {n : Int} (h1 : -(2 ^ 62) ≤ n) (h2 : n < 2 ^ 62) (Pv : Nat → L2.St → Hp → Prop) (h0 : Pv 0 σ H)
    (hs : ∀ i σ H, i < n.toNat → Pv i σ H → g (.int i) σ H fun σ2 H2 => tb { D with nx := Pv (i + 1), ct := Pv (i + 1), bk := D.nx } σ2 H2) (hd : ∀ σ H, Pv n.toNat σ H → D.nx σ H) : forR1 g tb D σ (.int n) H :=
  ⟨n, rfl, h1, h2, for_range (lo := 0) Pv h0 (fun i σ H hi hp => by have := hs i σ H hi hp; rw [show (0 : Int) + (i : Int) = i by omega]; exact this) hd⟩
def forZ (K : PySem.W.Frag) (g : TG) (tb : TS) (D : Ends) (σ : L2.St) (x y : V) (H1 : Hp) : Prop := ∃ (k1 k2 : SK) (xs ys : List V), [x, y] = [k1.v, k2.v] ∧ k1.sq K H1 xs ∧ k2.sq K H1 ys ∧ itB K (Itzx K k1 k2) g tb D σ H1
theorem e_forZ {ta tc : TE} : tFor (iZipX K (tCons ta (tCons tc tNil))) g tb D σ H = ta σ H fun x H1 => tc σ H1 fun y H2 => forZ K g tb D σ x y H2 := rfl
end
section
variable {K : PySem.W.Frag} {g : TG} {tt : TT} {te : TE} {vs : List Nat} {σ : L2.St} {H : Hp} {Q : VK}
def itC (J : It) (g : TG) (tt : TT) (te : TE) (vs : List Nat) (σ : L2.St) (Q : VK) (H1 : Hp) : Prop := ∀ D, H1 D = none → ∃ W : Nat → Nat → Hp → Prop, (∃ m, W 0 m (upd H1 D (.lst []))) ∧ ∀ i m H, W i m H →
  (J.stop i H ∧ Q (.ref D) H) ∨ (J.go i H ∧ ∃ Nx : Hp → Prop, (∀ H', Nx H' → ∃ m', m' < m ∧ W (i + 1) m' H') ∧ ∀ x H', J.yld i H x H' → g x (wipe σ vs) H' fun σ2 H2 => wipe σ2 vs = wipe σ vs ∧ tt σ2 H2 fun b H3 =>
    if b = true then te σ2 H3 fun y H4 => ∃ acc, H4 D = some (.lst acc) ∧ acc.length < sizeLine ∧ Nx (upd H4 D (.lst (acc ++ [y]))) else Nx H3)
def lcB (K : PySem.W.Frag) (g : TG) (tt : TT) (te : TE) (vs : List Nat) (σ : L2.St) (Q : VK) (x : V) (H1 : Hp) : Prop := match x with
  | .str z => itC (Its z) g tt te vs σ Q H1
  | .ref a => iO (H1 a) (itC (Itl K a) g tt te vs σ Q H1) (itC (Itt K a) g tt te vs σ Q H1)
  | _ => False
theorem e_lc {ta : TE} : tLc (iX K ta) g tt te vs σ H Q = ta σ H fun x H1 => lcB K g tt te vs σ Q x H1 := rfl
def turnC (g : TG) (tt : TT) (te : TE) (vs : List Nat) (σ : L2.St) (D : Addr) (x : V) (H : Hp) (N : Hp → Prop) : Prop := g x (wipe σ vs) H fun σ2 H2 => wipe σ2 vs = wipe σ vs ∧ tt σ2 H2 fun b H3 =>
  if b = true then te σ2 H3 fun y H4 => ∃ acc, H4 D = some (.lst acc) ∧ acc.length < sizeLine ∧ N (upd H4 D (.lst (acc ++ [y]))) else N H3
theorem lcB_list {a : Addr} {xs : List V} (ha : H a = some (.lst xs)) (Pv : Addr → Nat → Hp → Prop) (h0 : ∀ D, H D = none → Pv D 0 (upd H D (.lst []))) (hl : ∀ D i H, i ≤ xs.length → Pv D i H → H a = some (.lst xs))
    (hs : ∀ D i x H', H D = none → xs[i]? = some x → Pv D i H' → turnC g tt te vs σ D x H' (Pv D (i + 1))) (hd : ∀ D H', H D = none → Pv D xs.length H' → Q (.ref D) H') : lcB K g tt te vs σ Q (.ref a) H := by
  show iO (H a) _ _
  rw [ha]
  exact fun D hD => lc_list (Pv D) (h0 D hD) (fun i H hi hp => SqL.of (hl D i H hi hp)) (fun i x H' hx hp => hs D i x H' hD hx hp) fun H' hp => hd D H' hD hp
theorem lcB_str {z : Str} (Pv : Addr → Nat → Hp → Prop) (h0 : ∀ D, H D = none → Pv D 0 (upd H D (.lst [])))
    (hs : ∀ D i c H', H D = none → z.cps[i]? = some c → Pv D i H' → turnC g tt te vs σ D (.str ⟨#[c]⟩) H' (Pv D (i + 1))) (hd : ∀ D H', H D = none → Pv D z.cps.size H' → Q (.ref D) H') : lcB K g tt te vs σ Q (.str z) H := by
  intro D hD
  refine ⟨fun i m H => m = z.cps.size - i ∧ i ≤ z.cps.size ∧ Pv D i H, ⟨z.cps.size, by simp, Nat.zero_le _, h0 D hD⟩, ?_⟩
  rintro i m H' ⟨rfl, hi, p⟩
  by_cases hlt : i < z.cps.size
  · refine .inr ⟨hlt, Pv D (i + 1), fun H' p' => ⟨z.cps.size - (i + 1), by omega, rfl, hlt, p'⟩, fun x H' y => ?_⟩
    obtain ⟨e, c, hc, rfl⟩ := y
    subst e
    exact hs D i c _ hD hc p
  · have e : i = z.cps.size := by omega
    subst e
    exact .inl ⟨Nat.le_refl _, hd D H' hD p⟩
def lcR1 (g : TG) (tt : TT) (te : TE) (vs : List Nat) (σ : L2.St) (Q : VK) (x : V) (H : Hp) : Prop := tLc (iRng1 (tCons (tC x) tNil)) g tt te vs σ H Q
theorem e_lcR1 {ta : TE} : tLc (iRng1 (tCons ta tNil)) g tt te vs σ H Q = ta σ H fun x H1 => lcR1 g tt te vs σ Q x H1 := rfl
def lcZ (K : PySem.W.Frag) (g : TG) (tt : TT) (te : TE) (vs : List Nat) (σ : L2.St) (Q : VK) (x y : V) (H1 : Hp) : Prop := ∃ (k1 k2 : SK) (xs ys : List V), [x, y] = [k1.v, k2.v] ∧ k1.sq K H1 xs ∧ k2.sq K H1 ys ∧ itC (Itzx K k1 k2) g tt te vs σ Q H1
theorem e_lcZ {ta tc : TE} : tLc (iZipX K (tCons ta (tCons tc tNil))) g tt te vs σ H Q = ta σ H fun x H1 => tc σ H1 fun y H2 => lcZ K g tt te vs σ Q x y H2 := rfl
theorem lcZ_ok {k1 k2 : SK} {xs ys : List V} (q1 : k1.sq K H xs) (q2 : k2.sq K H ys) (Pv : Addr → Nat → Hp → Prop) (h0 : ∀ D, H D = none → Pv D 0 (upd H D (.lst []))) (hl : ∀ D i H', i ≤ min xs.length ys.length → Pv D i H' → k1.sq K H' xs ∧ k2.sq K H' ys)
    (hs : ∀ D i x y T H', H D = none → xs[i]? = some x → ys[i]? = some y → H' T = none → Pv D i H' → turnC g tt te vs σ D (.ref T) (upd H' T (.tup [x, y])) (Pv D (i + 1))) (hd : ∀ D H', H D = none → Pv D (min xs.length ys.length) H' → Q (.ref D) H') : lcZ K g tt te vs σ Q k1.v k2.v H :=
  ⟨k1, k2, xs, ys, rfl, q1, q2, fun D hD => lc_zipX (Pv D) (h0 D hD) (fun i H hi hp => hl D i H hi hp) (fun i x y T H' hx hy hT hp => hs D i x y T H' hD hx hy hT hp) fun H' hp => hd D H' hD hp⟩
end
end M
namespace M
open PySem L2
end M

namespace M
open PySem L2
def Sh (n : Nat) (d : PyData) : Prop := d.canLay0 = true ∧ d.depth ≤ n
theorem Sh.shaped {n : Nat} {d : PyData} (h : Sh n d) (hn : n ≤ 64) : SeqAt.shaped d = true := by
  unfold SeqAt.shaped
  rw [h.1, Bool.true_and]
  exact decide_eq_true (Nat.le_trans h.2 hn)
theorem sh_all {n : Nat} : ∀ {ds : List PyData}, (∀ d ∈ ds, Sh n d) → PyData.canLayAll0 ds = true ∧ PyData.depthAll ds ≤ n
  | [], _ => by simp [PyData.canLayAll0, PyData.depthAll]
  | d :: ds, h => by
    obtain ⟨a, b⟩ := sh_all (ds := ds) fun e he => h e (by simp [he])
    obtain ⟨c, e⟩ := h d (by simp)
    simp only [PyData.canLayAll0, PyData.depthAll, a, c, Bool.and_self, true_and]
    omega
theorem Sh.int {n : Nat} {i : Int} : Sh n (.int i) := by simp [Sh, PyData.canLay0, PyData.depth]
theorem Sh.str {n : Nat} {i : Str} (h : PyData.strOk i = true) : Sh n (.str i) := by simp [Sh, PyData.canLay0, PyData.depth, h]
theorem Sh.bool {n : Nat} {i : Bool} : Sh n (.bool i) := by simp [Sh, PyData.canLay0, PyData.depth]
theorem Sh.none {n : Nat} : Sh n .none := by simp [Sh, PyData.canLay0, PyData.depth]
theorem Sh.list {n : Nat} {ds : List PyData} (h : ∀ d ∈ ds, Sh n d) : Sh (n + 1) (.list ds) := by
  obtain ⟨a, b⟩ := sh_all h
  simp [Sh, PyData.canLay0, PyData.depth, a]; omega
theorem Sh.tuple {n : Nat} {ds : List PyData} (h : ∀ d ∈ ds, Sh n d) : Sh (n + 1) (.tuple ds) := by
  obtain ⟨a, b⟩ := sh_all h
  simp [Sh, PyData.canLay0, PyData.depth, a]; omega
theorem Sh.ints {ns : List Int} : ∀ d ∈ ns.map PyData.int, Sh 0 d := fun d h => by
  obtain ⟨i, _, rfl⟩ := List.mem_map.mp h
  exact Sh.int
theorem eqv_ii {a b : Int} : PyData.eqv (.int a) (.int b) = decide (a = b) := by simp only [PyData.eqv]; rfl
theorem eqv_ll {ds es : List PyData} : PyData.eqv (.list ds) (.list es) = PyData.eqvAll ds es := by simp [PyData.eqv]
theorem eqv_cc {d e : PyData} {ds es : List PyData} : PyData.eqvAll (d :: ds) (e :: es) = (PyData.eqv d e && PyData.eqvAll ds es) := by simp [PyData.eqvAll]
theorem eqv_ints : ∀ {ns ms : List Int}, PyData.eqvAll (ns.map PyData.int) (ms.map PyData.int) = decide (ns = ms)
  | [], [] => by simp [PyData.eqvAll]
  | [], _ :: _ => by simp [PyData.eqvAll]
  | _ :: _, [] => by simp [PyData.eqvAll]
  | a :: ns, b :: ms => by
    rw [List.map_cons, List.map_cons, eqv_cc, eqv_ii, eqv_ints (ns := ns) (ms := ms)]
    by_cases h1 : a = b <;> by_cases h2 : ns = ms <;> simp [h1, h2]
section
variable {K : PySem.W.Frag} {H : Hp} {Q : VK}
theorem dp_ints : ∀ {ns : List Int}, DpAll K H (ns.map V.int) (ns.map PyData.int)
  | [] => .nil
  | n :: ns => .cons (.int n) dp_ints
theorem Dp.ints {a : Addr} {ns : List Int} (h : H a = some (.lst (ns.map V.int))) : Dp K H (.ref a) (.list (ns.map PyData.int)) := .lst (SqL.of h) dp_ints
theorem Dp.two {a : Addr} {i j : Int} (h : H a = some (.tup [.int i, .int j])) : Dp K H (.ref a) (.tuple [.int i, .int j]) := .tup (SqT.of h) (.cons (.int i) (.cons (.int j) .nil))
theorem Sh.two {i j : Int} : Sh 1 (.tuple [.int i, .int j]) := Sh.tuple (n := 0) fun d h => Sh.ints (ns := [i, j]) d h
theorem e_eq_rr {a b : Addr} {d e : PyData} {n m : Nat} (h1 : Dp K H (.ref a) d) (h2 : Dp K H (.ref b) e) (s1 : Sh n d) (s2 : Sh m e) (hn : n ≤ 64 := by decide) (hm : m ≤ 64 := by decide) (q : Q (.bl (PyData.eqv d e)) H) : rEqX K (.ref a) (.ref b) H Q :=
  ⟨d, e, h1, h2, s1.shaped hn, s2.shaped hm, q⟩
theorem e_ne_rr {a b : Addr} {d e : PyData} {n m : Nat} (h1 : Dp K H (.ref a) d) (h2 : Dp K H (.ref b) e) (s1 : Sh n d) (s2 : Sh m e) (hn : n ≤ 64 := by decide) (hm : m ≤ 64 := by decide) (q : Q (.bl (!PyData.eqv d e)) H) : rNeX K (.ref a) (.ref b) H Q :=
  ⟨d, e, h1, h2, s1.shaped hn, s2.shaped hm, q⟩
mutual
theorem Dp.kp {H' : Hp} (k : Kp [] H H') (k' : ∀ a xs, SqL K H a xs → SqL K H' a xs) (k'' : ∀ a xs, SqT K H a xs → SqT K H' a xs) : ∀ {v : V} {d : PyData}, Dp K H v d → Dp K H' v d
  | _, _, .non => .non
  | _, _, .bl b => .bl b
  | _, _, .int i => .int i
  | _, _, .str x => .str x
  | _, _, .lst h r => .lst (k' _ _ h) (DpAll.kp k k' k'' r)
  | _, _, .tup h r => .tup (k'' _ _ h) (DpAll.kp k k' k'' r)
theorem DpAll.kp {H' : Hp} (k : Kp [] H H') (k' : ∀ a xs, SqL K H a xs → SqL K H' a xs) (k'' : ∀ a xs, SqT K H a xs → SqT K H' a xs) : ∀ {v : List V} {d : List PyData}, DpAll K H v d → DpAll K H' v d
  | _, _, .nil => .nil
  | _, _, .cons h r => .cons (Dp.kp k k' k'' h) (DpAll.kp k k' k'' r)
end
theorem DpAll.len {vs : List V} {ds : List PyData} (h : DpAll K H vs ds) : vs.length = ds.length := by
  induction ds generalizing vs with
  | nil => cases h; rfl
  | cons d ds ih => cases h with | cons _ r => simp [ih r]
theorem DpAll.append {vs : List V} {ds : List PyData} {v : V} {d : PyData} (h : DpAll K H vs ds) (h' : Dp K H v d) : DpAll K H (vs ++ [v]) (ds ++ [d]) := by
  induction ds generalizing vs with
  | nil => cases h; exact .cons h' .nil
  | cons e ds ih => cases h with | cons q r => exact .cons q (ih r)
end
end M

namespace M
open PySem L2 PyProof.Rows
def rRv : V → V → Hp → VK → Prop := fun x k H Q => match x, k with
  | .ref p, .int (.negSucc 0) => slO (H p) fun xs => ∀ q, H q = none → Q (.ref q) (upd H q (.lst xs.reverse))
  | _, _ => False
def tRv (te tk : TE) : TE := fun σ H Q => te σ H fun x H1 => tk σ H1 fun k H2 => rRv x k H2 Q
theorem e_rv {p : Addr} {H : Hp} {Q : VK} : rRv (.ref p) (.int (-1)) H Q = slO (H p) fun xs => ∀ q, H q = none → Q (.ref q) (upd H q (.lst xs.reverse)) := rfl
theorem chg_keep {H H' : Hp} {b c p : Addr} {o : HO} (k : Chg [b, c] H H') (hp : H p = some o) (h1 : p ≠ b) (h2 : p ≠ c) : H' p = some o := by rw [k p (by simp [h1, h2])]; exact hp
theorem Parts.chg {H H' : Hp} {b c : Addr} {T : Int} {rs : List Addr} {ps : List (Int × Int)} (x : Parts H rs ps) (k : Chg [b, c] H H') (bx : Box H b c T) : Parts H' rs ps := by
  obtain ⟨ns, t, e1, e2, _⟩ := bx.ex
  refine ⟨x.len, fun i r p h1 h2 => ?_⟩
  have e := x.at' i r p h1 h2
  exact chg_keep k e (ne_of e e1 (by unfold boxD; intro z; cases z)) (ne_of e e2 (by intro z; cases z))
theorem Parts.updL {H : Hp} {p : Addr} {xs ys : List V} {rs : List Addr} {ps : List (Int × Int)} (x : Parts H rs ps) (h : H p = some (.lst xs)) : Parts (upd H p (.lst ys)) rs ps := by
  refine ⟨x.len, fun i r q h1 h2 => ?_⟩
  have e := x.at' i r q h1 h2
  rw [upd_ne (ne_of e h (by intro z; cases z))]; exact e
theorem int_at {rs : List Int} {i : Nat} {x : V} (h : (rs.map V.int)[i]? = some x) : ∃ r, x = .int r ∧ rs[i]? = some r := by
  rw [List.getElem?_map] at h
  cases e : rs[i]? with
  | none => rw [e] at h; cases h
  | some r => rw [e] at h; cases h; exact ⟨r, rfl, rfl⟩
end M

set_option maxHeartbeats 4000000
namespace M
open PySem L2
theorem fmod_lt (x : Int) {y : Int} (h : y ≠ 0) : (x.fmod y).natAbs < y.natAbs := by
  rcases Int.lt_or_gt_of_ne h with h1 | h1
  · have e := @Int.fmod_eq_emod x y
    have a := Int.emod_nonneg x h
    have b := Int.emod_lt_of_neg x h1
    split at e
    · rename_i q
      rcases q with q | q
      · omega
      · have := Int.emod_eq_zero_of_dvd q
        omega
    · rename_i q
      have : x % y ≠ 0 := fun z => q (.inr (Int.dvd_of_emod_eq_zero z))
      omega
  · have a := Int.fmod_nonneg_of_pos x h1
    have b := Int.fmod_lt_of_pos x h1
    omega
theorem gcd_fmod (x y : Int) : Int.gcd y (x.fmod y) = Int.gcd x y := by
  rw [Int.fmod_def, Int.gcd_sub_mul_left_right, Int.gcd_comm]
def spGcd : Sp := fun vs H Q _ => match vs with
  | [.int a, .int b] => Q (.int (Int.gcd a b : Int)) H
  | _ => False
def ptG (t b : Int) : Int := if b < 0 then -(Int.gcd t b : Int) else (Int.gcd t b : Int)
theorem gcd_le {t b : Int} (h : b ≠ 0) : Int.gcd t b ≤ b.natAbs := Nat.le_of_dvd (by omega) (Int.gcd_dvd_natAbs_right t b)
theorem gcd_pos {t b : Int} (h : b ≠ 0) : 0 < Int.gcd t b := Int.gcd_pos_of_ne_zero_right t h
theorem log2_mono {a b : Nat} (h : a ≤ b) : a.log2 ≤ b.log2 := by
  by_cases ha : a = 0
  · rw [ha]; exact Nat.zero_le _
  · exact (Nat.le_log2 (by omega)).mpr (Nat.le_trans (Nat.log2_self_le ha) h)
theorem ptG_ne {t b : Int} (h : b ≠ 0) : ptG t b ≠ 0 := by have := gcd_pos (t := t) h; unfold ptG; split <;> omega
theorem ptG_small {t b : Int} (h : b ≠ 0) (hs : Small b) : (ptG t b).natAbs.log2 < 9000 := by
  have e : (ptG t b).natAbs = Int.gcd t b := by unfold ptG; split <;> omega
  rw [e]
  exact Nat.lt_of_le_of_lt (log2_mono (gcd_le h)) hs
theorem part_q (t b : Int) (h : b ≠ 0) : ∃ q r, t = ptG t b * q ∧ b = ptG t b * r ∧ t.fdiv (ptG t b) = q ∧ b.fdiv (ptG t b) = r ∧ 1 ≤ r ∧ Int.gcd q r = 1 := by
  have hn := ptG_ne (t := t) h
  have ha : (ptG t b).natAbs = Int.gcd t b := by unfold ptG; split <;> omega
  obtain ⟨q, hq⟩ : ptG t b ∣ t := by rw [← Int.natAbs_dvd, ha]; exact Int.gcd_dvd_left t b
  obtain ⟨r, hr⟩ : ptG t b ∣ b := by rw [← Int.natAbs_dvd, ha]; exact Int.gcd_dvd_right t b
  refine ⟨q, r, hq, hr, ?_, ?_, ?_, ?_⟩
  · conv => lhs; arg 1; rw [hq]
    exact Int.mul_fdiv_cancel_left q hn
  · conv => lhs; arg 1; rw [hr]
    exact Int.mul_fdiv_cancel_left r hn
  · have hp := gcd_pos (t := t) h
    by_cases hr0 : 1 ≤ r
    · exact hr0
    · exfalso
      unfold ptG at hr
      split at hr
      · have : 0 ≤ -(Int.gcd t b : Int) * r := Int.mul_nonneg_of_nonpos_of_nonpos (by omega) (by omega)
        omega
      · have : (Int.gcd t b : Int) * r ≤ 0 := Int.mul_nonpos_of_nonneg_of_nonpos (by omega) (by omega)
        omega
  · have e : Int.gcd t b = (ptG t b).natAbs * Int.gcd q r := by
      rw [← Int.gcd_mul_left, ← hq, ← hr]
    rw [ha] at e
    have hp := gcd_pos (t := t) h
    exact (Nat.eq_of_mul_eq_mul_left hp (by omega : Int.gcd t b * Int.gcd q r = Int.gcd t b * 1))
end M
namespace M
open PySem L2
theorem Parts.get {H : Hp} {rs : List Addr} {ps : List (Int × Int)} (x : Parts H rs ps) {i : Nat} (hi : i < ps.length) : ∃ r p, rs[i]? = some r ∧ ps[i]? = some p ∧ H r = some (.tup [.int p.1, .int p.2]) := by
  have hr : i < rs.length := by rw [x.len]; exact hi
  refine ⟨rs[i], ps[i], by simp [hr], by simp [hi], x.at' i _ _ (by simp [hr]) (by simp [hi])⟩
end M

set_option maxHeartbeats 4000000
namespace M
open PySem PySem.Spec PyProof.Rows L2
structure Fly (P : Program) (w : World) (outer : List Env) (H : Hp) (s : Shared) (E : XK) (e : Value) (s' : Shared) (x C : Addr) (a0 : Value) (B : Heap) (H' : Hp) : Prop where
  is : e = .ref x
  fl : Heap.FlyingW B outer x (.ref C) a0 s'.heap
  os : s'.os = s.os
  bare : AllBare s'.gens
  keep : ∀ b o, s.heap.get? b = some o → H b = none → b ∉ frs outer → B.get? b = some o
  there : ∀ b o, s.heap.get? b = some o → b ∉ frs outer → ∃ o', B.get? b = some o'
  un : Un (frs outer) [] H H' s.heap s'.heap
  hok : HOk P w H' B
  q : E (.ref C) none H'
def CXE (P : Program) (w : World) : CXT := fun outer H s E e s' => ∃ x C a0 B H', Fly P w outer H s E e s' x C a0 B H'
section
variable {P : Program} {w : World} {K : PySem.W.Frag} {mg : Str → Option Value} {base : Heap} {N : List Str} {qual : Str} {scope : Scope} {f : Addr} {cd : Value} {A : Around} {outer : List Env} {s : Shared} {H : Hp} {E : XK}
abbrev bmV : List Value := [.type "ValueError", .type "Exception", .type "BaseException", .type "object"]
structure Xc (K : PySem.W.Frag) (mg : Str → Option Value) (y : Str) (C : Addr) : Prop where
  at' : mg y = some (.ref C)
  own : PySem.W.excIn K C bmV "ValueError.__new__" = true
  kp : PySem.W.keepIn K (.ref C) = true
theorem Xc.obj {y : Str} {C : Addr} {h : Heap} (x : Xc K mg y C) (X : K.In h) : OwnCls y C bmV "ValueError.__new__" mg h := by
  have q := x.own
  refine ⟨x.at', ?_⟩
  unfold PySem.W.excIn at q
  split at q
  · rename_i ddd cdd sll hoo
    split at q
    · rename_i C1 bb z0 z1 z2 z3 nn z5 hmm hss
      simp only [Bool.and_eq_true, beq_iff_eq, Bool.not_eq_true'] at q
      obtain ⟨⟨⟨⟨⟨e1, e2⟩, e3⟩, e4⟩, e5⟩, e6⟩ := q
      subst e1 e2
      obtain ⟨nm, bs, mro, ns, qn, hd, sn, sub, ab, col, del⟩ := cdd
      have e7 : mro = .ref C1 :: bb := hmm
      have e8 : del = false := e3
      subst e7 e8
      have e9 : sll = #[z0, z1, z2, z3, some (.builtin "ValueError.__new__"), z5] := by
        cases sll with
        | mk l => exact congrArg Array.mk hss
      subst e9
      exact ⟨bb, ns, nm, qn, bs, hd, sn, sub, ab, col, ddd, z0, z1, z2, z3, z5, _, X _ _ hoo, Heap.Ns.of_isNs (PySem.W.isNs_of_in X e5), PySem.W.nsMap_none_of_in X e5 e6, PySem.W.tail_of_in X e4⟩
    · cases q
  · cases q
def tRaise (C : Addr) (E : XK) (t : TA) : TS := fun _ σ H1 => t σ H1 fun vs H2 => vs.length ≤ sizeLine ∧ E (.ref C) none H2
end
end M
namespace M
open PySem PySem.Spec PyProof.Rows L2
theorem ObjOk.has {P : Program} {w : World} {H : Hp} {h : Heap} {a : Addr} {o : HO} (x : ObjOk P w H h a o) : ∃ ob, h.get? a = some ob := by
  cases o with
  | lst xs => obtain ⟨_, _, _, _, e⟩ := x; exact ⟨_, e⟩
  | tup xs => obtain ⟨_, _, _, ob, e, _⟩ := x; exact ⟨_, e⟩
  | dK kvs => obtain ⟨_, _, _, _, o, _, _, e, _⟩ := x; exact ⟨_, e⟩
  | dT kvs => obtain ⟨_, _, _, _, o, _, _, e, _⟩ := x; exact ⟨_, e⟩
  | set S n => obtain ⟨o, _, _, _, e, _⟩ := x; exact ⟨_, e⟩
  | ins C dx fs => obtain ⟨_, _, _, e, _⟩ := x; exact ⟨_, e⟩
  | own y => obtain ⟨_, e⟩ := x; exact ⟨_, e⟩
  | xd fs => obtain ⟨_, ⟨_, _, _, e, _⟩, _⟩ := x; exact ⟨_, e⟩
  | rng lo hi => obtain ⟨_, _, _, e⟩ := x; exact ⟨_, e⟩
  | frz ob u => obtain ⟨e, _⟩ := x; exact ⟨_, e⟩
  | tbl ps => exact ⟨_, (show h.get? a = some _ from x)⟩
  | met f y => exact ⟨_, (show h.get? a = some _ from x)⟩
  | ext φ => obtain ⟨_, ⟨_, e⟩, _⟩ := x; exact ⟨_, e⟩
def XObj (C x : Addr) : Heap → Prop := fun h => ∃ ob, h.get? x = some ob ∧ ob.cls = .ref C
abbrev xcO (C x : Addr) : HO := .ext (XObj C x)
section
variable {X : Cx} {pins : List (Addr × Obj)} {σ : L2.St} {H1 H2 : Hp} {s1 s' : Shared} {E : XK} {e : Value} {x C : Addr} {a0 : Value} {B h6 : Heap}
theorem Fly.new (F : Fly X.prog X.w X.stack H1 s1 E e s' x C a0 B H2) : H2 x = none := by
  cases q : H2 x with
  | none => rfl
  | some o =>
    obtain ⟨ob, h⟩ := ObjOk.has (F.hok x o q)
    rw [F.fl.2.1] at h; cases h
theorem Fly.un6 (I : Inv X pins σ H1 s1) (F : Fly X.prog X.w X.stack H1 s1 E e s' x C a0 B H2) (fl : Heap.FlyingW B X.stack x (.ref C) a0 h6) (up : s'.heap.UpToSlots h6) : Un (frs X.stack) [] H1 H2 s1.heap h6 := by
  have slot' : ∀ b, b ∈ frs X.stack → ∀ o, s'.heap.get? b = some o → ∃ sl, h6.get? b = some { o with slots := sl } := fun b hb o ho => by
    obtain ⟨_, o', e1, e2⟩ := F.fl.2.2.1.mem hb
    rw [ho] at e1; cases e1
    exact up b o ho e2
  refine ⟨fun b o h1 h2 h3 _ => fl.1 b o (F.keep b o h1 h2 h3), fun b o h1 h2 h3 h4 => ?_, F.un.free, fun b o h1 h4 => ?_, F.un.tups, F.un.frzs, F.un.tbls⟩
  · obtain ⟨sl, q⟩ := F.un.slot b o h1 h2 h3 h4
    obtain ⟨sl', q'⟩ := slot' b h3 _ q
    exact ⟨sl', q'⟩
  · by_cases hb : b ∈ frs X.stack
    · obtain ⟨o', q⟩ := F.un.there b o h1 h4
      obtain ⟨sl', q'⟩ := slot' b hb _ q
      exact ⟨_, q'⟩
    · obtain ⟨o', q⟩ := F.there b o h1 hb
      exact ⟨o', fl.1 b o' q⟩
theorem Fly.held (I : Inv X pins σ H1 s1) (F : Fly X.prog X.w X.stack H1 s1 E e s' x C a0 B H2) (fl : Heap.FlyingW B X.stack x (.ref C) a0 h6) (up : s'.heap.UpToSlots h6) {t : Nat} : Inv X pins σ (upd H2 x (xcO C x)) { s' with heap := h6, toks := t } := by
  have u := F.un6 I fl up
  have n2 := F.new
  have nx : ∀ b o, s1.heap.get? b = some o → b ≠ x := fun b o hb z => by
    subst z
    by_cases hf : b ∈ frs X.stack
    · obtain ⟨_, o', e1, e2⟩ := fl.2.2.1.mem hf
      obtain ⟨_, _, _, oe, vs, _, _, _, he, _, hd, _⟩ := fl
      rw [he] at e1; cases e1
      exact e2 vs hd
    · obtain ⟨o', q⟩ := F.there b o hb hf
      rw [F.fl.2.1] at q; cases q
  have nb : ∀ {b : Addr} {o : HO}, H2 b = some o → b ≠ x := fun {b o} q z => by rw [z, n2] at q; cases q
  refine I.call' (s' := { s' with heap := h6, toks := t }) F.os ⟨u.keep, u.slot, fun b o h1 h2 h3 => ?_, u.there, fun b xs q => ?_, fun b o v q => ?_, fun b ps q => ?_⟩ (fun b o q => ?_) F.bare (fun b z => absurd z (by simp))
  · rw [upd_ne (nx b o h1)]; exact u.free b o h1 h2 h3
  · have := u.tups b xs q
    rw [upd_ne (nb this)]; exact this
  · have := u.frzs b o v q
    rw [upd_ne (nb this)]; exact this
  · obtain ⟨m, z⟩ := u.tbls b ps q
    exact ⟨m, by rw [upd_ne (nb z)]; exact z⟩
  · by_cases hb : b = x
    · subst hb
      rw [upd_same] at q; cases q
      obtain ⟨ob, h1, h2⟩ := fl.there
      exact ⟨⟨ob, h1, h2⟩, ⟨ob, h1⟩, fun ha hb ⟨o1, k1, k2⟩ k => ⟨o1, k o1 k1, k2⟩⟩
    · rw [upd_ne hb] at q
      exact ObjOk.stay (F.hok b o q) (fun c v _ r => fl.1 c v r) (fun c r => by rw [upd_ne (nb r)]; exact r) fun c xs r => by rw [upd_ne (nb r)]; exact r
end
end M
namespace M
open PySem PySem.Spec PyProof.Rows L2
section
variable {X : Cx} {pins : List (Addr × Obj)} {σ : L2.St} {H : Hp} {s : Shared} {x : Addr} {E : Value → Shared → Prop}
end
abbrev TX := L2.St → Hp → VK → XK → Prop
structure CalX (P : Program) (w : World) (K : PySem.W.Frag) (mg : Str → Option Value) (base : Heap) (x : Str) (k : Nat) (ps : List Str) (sp : Sp) : Prop where
  ex : ∃ f fd, FnOk P w K mg base (CXE P w) k f fd ps sp ∧ mg x = some (.ref f) ∧ PySem.W.keepIn K (.ref f) = true ∧ Binds K fd ps []
section
variable {X : Cx} {x : Str} {k : Nat} {ps : List Str} {sp : Sp} {p pos : Pos} {e : Expr} {es : List Expr} {t : TA}
end
end M

set_option maxHeartbeats 4000000
namespace M
open PySem PySem.Spec PyProof.Rows L2
section
variable {M : Model} {A : Around} {E : Value → Shared → Prop}
variable {nm q nm' q' : Str} {C N D N' : Addr} {bs bm bs' bm' : List Value} {hdct hdct' : Bool} {sn sn' : List Str} {sub sub' : List Value} {ab ab' : Bool} {col col' : Option Bool} {dd dd' : Option Addr} {k0 k1 k2 k3 k5 j0 j1 j2 j3 j5 : Option Value} {newId newId' : String}
end
end M
namespace M
open PySem PySem.Spec PyProof.Rows L2
def supIn (K : PySem.W.Frag) (C D : Addr) : Bool := match K.lookup C with
  | some ⟨_, _, .cls cd, _⟩ => cd.mro.contains (.ref D)
  | _ => false
structure Xk (K : PySem.W.Frag) (C : Addr) : Prop where
  own : PySem.W.excIn K C bmV "ValueError.__new__" = true
theorem Xk.obj {K : PySem.W.Frag} {C : Addr} {h : Heap} (x : Xk K C) (X : K.In h) : OwnCls "" C bmV "ValueError.__new__" (fun _ => some (.ref C)) h := by
  have q := x.own
  refine ⟨rfl, ?_⟩
  unfold PySem.W.excIn at q
  split at q
  · rename_i ddd cdd sll hoo
    split at q
    · rename_i C1 bb z0 z1 z2 z3 nn z5 hmm hss
      simp only [Bool.and_eq_true, beq_iff_eq, Bool.not_eq_true'] at q
      obtain ⟨⟨⟨⟨⟨e1, e2⟩, e3⟩, e4⟩, e5⟩, e6⟩ := q
      subst e1 e2
      obtain ⟨nm, bs, mro, ns, qn, hd, sn, sub, ab, col, del⟩ := cdd
      have e7 : mro = .ref C1 :: bb := hmm
      have e8 : del = false := e3
      subst e7 e8
      have e9 : sll = #[z0, z1, z2, z3, some (.builtin "ValueError.__new__"), z5] := by
        cases sll with
        | mk l => exact congrArg Array.mk hss
      subst e9
      exact ⟨bb, ns, nm, qn, bs, hd, sn, sub, ab, col, ddd, z0, z1, z2, z3, z5, _, X _ _ hoo, Heap.Ns.of_isNs (PySem.W.isNs_of_in X e5), PySem.W.nsMap_none_of_in X e5 e6, PySem.W.tail_of_in X e4⟩
    · cases q
  · cases q
def tTry (K : PySem.W.Frag) (i n : Nat) (te : TX) (Dc : Addr) (ts : TS) : TS := fun D σ H => te σ H (fun v H1 => D.nx (σ.set i (some v)) H1) fun c _ H1 => ∃ C, c = .ref C ∧ supIn K C Dc = true ∧ Xk K C ∧
  ∀ x, H1 x = none → ts ⟨fun σ' H' => D.nx (σ'.set n none) H', D.rt, fun σ' H' => D.bk (σ'.set n none) H', fun σ' H' => D.ct (σ'.set n none) H'⟩ (σ.set n (some (.ref x))) (upd H1 x (xcO C x))
end M

set_option maxHeartbeats 4000000
namespace M
open PySem PySem.Spec PyProof.Rows L2 PySem.W Builtin Builtin.ObjectAttr Builtin.Getset_descriptor
structure Xa (K : PySem.W.Frag) (C : Addr) : Prop where
  ga : findIn K (.ref C) "__getattribute__" = some (some (.builtin "BaseException.__getattribute__"))
  nh : findIn K (.ref C) "__getattr__" = some none
  cl : findIn K (.ref C) "__class__" = some (some (.builtin "object.__class__"))
  mb : mroIn K C (.type "BaseException") = some true
  mo : mroIn K C (.type "object") = some true
  ic : (clsIn K C).isSome = true
section
variable {prog : Program} {w : World} {A : Around} {E : Value → Shared → Prop} {s : Shared} {K : PySem.W.Frag} {x C : Addr} {ob : Obj}
end
end M

set_option maxHeartbeats 4000000
namespace M
open PySem PySem.Spec PyProof.Rows L2
structure RoomH (k : Nat) (A : Around) : Prop where
  dp : A.depth + 3 * k + 5 < recursionLimit
  un : A.units + 16 * k + 200 < cLine
  gd : A.guards = some []
theorem RoomH.of {k : Nat} {A : Around} (r : Room k A) : RoomH k A := ⟨r.dp, r.un, r.gd⟩
theorem RoomH.mono {j k : Nat} {A : Around} (r : RoomH k A) (h : j ≤ k) : RoomH j A := ⟨by have := r.dp; omega, by have := r.un; omega, r.gd⟩
theorem RoomH.deeper {k : Nat} {A : Around} (r : RoomH (k + 1) A) (env : Env) : RoomH k (A.deeper env) :=
  ⟨by have := r.dp; show A.depth + 1 + 3 * k + 5 < _; omega, by have := r.un; show A.units + 3 + 16 * k + 200 < _; omega, r.gd⟩
theorem RoomH.depth {k : Nat} {A : Around} (r : RoomH (k + 1) A) : A.depth < recursionLimit := by have := r.dp; omega
theorem RoomH.units {k : Nat} {A : Around} (r : RoomH k A) : A.units + 64 < cLine := by have := r.un; omega
structure FnH (P : Program) (w : World) (K : PySem.W.Frag) (mg : Str → Option Value) (base : Heap) (k : Nat) (f : Addr) (fd : FuncData) (ps : List Str) (sp : Sp) : Prop where
  len : ∀ vs H Q E, sp vs H Q E → vs.length = ps.length
  run : ∀ (A : Around) (outer : List Env) (s : Shared) (H : Hp) (args : Args) (us : List Value) (vs : List V) (Q : VK), RoomH k A → Env0 P w K mg base A outer s H → BindsTo s fd args (ps.zip us) → Vals vs us → sp vs H Q E0 →
    codeAny (model P w) A (.call (.ref f) args) (CR CX0 outer P w H s Q E0) s
structure CalH (P : Program) (w : World) (K : PySem.W.Frag) (mg : Str → Option Value) (base : Heap) (x : Str) (k : Nat) (ps : List Str) (sp : Sp) : Prop where
  ex : ∃ f fd, FnH P w K mg base k f fd ps sp ∧ mg x = some (.ref f) ∧ PySem.W.keepIn K (.ref f) = true ∧ Binds K fd ps []
section
variable {X : Cx} {x : Str} {k : Nat} {ps : List Str} {sp : Sp} {p pos : Pos} {e : Expr} {es : List Expr} {t : TA}
end
end M

set_option maxHeartbeats 4000000
namespace M
open PySem PySem.Spec PyProof.Rows L2 PySem.W
def cntO (y : V) : Option HO → (Int → Prop) → Prop
  | some (.lst ys), R => flatV y = true ∧ ys.all flatV = true ∧ R (ys.countP fun z => eqV z y)
  | _, _ => False
def cntX : V → List V → Hp → VK → Prop := fun x vs H Q => match x, vs with
  | .ref p, [y] => cntO y (H p) fun n => Q (.int n) H
  | _, _ => False
theorem e_cnt {p : Addr} {y : V} {H : Hp} {Q : VK} : cntX (.ref p) [y] H Q = cntO y (H p) fun n => Q (.int n) H := rfl
theorem e_cntO {y : V} {ys : List V} {R : Int → Prop} : cntO y (some (.lst ys)) R = (flatV y = true ∧ ys.all flatV = true ∧ R (ys.countP fun z => eqV z y)) := rfl
def idxO (y : V) : Option HO → (Int → Prop) → Prop
  | some (.lst ys), R => flatV y = true ∧ ys.all flatV = true ∧ ∃ (j : Nat) (z : V), ys[j]? = some z ∧ eqV z y = true ∧ (∀ (m : Nat) (z' : V), m < j → ys[m]? = some z' → eqV z' y = false) ∧ R j
  | _, _ => False
def idxX : V → List V → Hp → VK → Prop := fun x vs H Q => match x, vs with
  | .ref p, [y] => idxO y (H p) fun n => Q (.int n) H
  | _, _ => False
theorem e_idx {p : Addr} {y : V} {H : Hp} {Q : VK} : idxX (.ref p) [y] H Q = idxO y (H p) fun n => Q (.int n) H := rfl
structure Er (K : PySem.W.Frag) (C B : Addr) (cs : List Addr) : Prop where
  xk : Xk K C
  xb : Xk K B
  sup : supIn K C B = true
  xa : Xa K C
  kc : keepIn K (.ref C) = true
  kb : keepIn K (.ref B) = true
  ve : kitOne K (.ref C) (.type "ValueError") = some true
  one : ∀ D ∈ cs, kitOne K (.ref C) (.ref D) = some (D == C)
theorem Er.any {K : PySem.W.Frag} {C B : Addr} {cs : List Addr} (x : Er K C B cs) : ∀ {l : List Addr}, (∀ D ∈ l, D ∈ cs) → kitAny K (.ref C) (l.map Value.ref) = some (l.any fun D => D == C)
  | [], _ => rfl
  | D :: l, h => by
    have e := x.one D (h D (by simp))
    have ih := Er.any x (l := l) fun D' hD => h D' (by simp [hD])
    rw [List.map_cons, kitAny, e, List.any_cons]
    cases hb : (D == C) with
    | true => rfl
    | false => simpa using ih
end M

set_option maxHeartbeats 4000000
namespace M
open PySem PySem.Spec PyProof.Rows L2
section
variable {X : Cx}
def joinM : V → List V → Hp → VK → Prop := fun x xs H Q => match x, xs with
  | .str a, [.ref p] => ∃ ys : List Str, H p = some (.lst (ys.map V.str)) ∧ (ys.map (·.length)).sum + ys.length * a.length ≤ 16777216 ∧ Q (.str (Txt.join a ys)) H
  | _, _ => False
theorem e_join {a : Str} {p : Addr} {H : Hp} {Q : VK} : joinM (.str a) [.ref p] H Q = ∃ ys : List Str, H p = some (.lst (ys.map V.str)) ∧ (ys.map (·.length)).sum + ys.length * a.length ≤ 16777216 ∧ Q (.str (Txt.join a ys)) H := rfl
theorem mt_joinX : MtR X "str.join" joinM := MtR.imp mt_join fun x xs H Q h => by
  unfold joinM at h
  split at h
  · obtain ⟨ys, h1, h2, q⟩ := h
    exact ⟨_, _, ys, rfl, rfl, .inl (SqL.of h1), h2, q⟩
  · exact h.elim
def splM : V → List V → Hp → VK → Prop := fun x xs H Q => match x, xs with
  | .str a, [.str b] => (b.length == 0) = false ∧ a.length + 2 ≤ sizeLine ∧ ∀ p, H p = none → Q (.ref p) (upd H p (.lst ((Txt.split a b).map V.str)))
  | _, _ => False
theorem e_spl {a b : Str} {H : Hp} {Q : VK} : splM (.str a) [.str b] H Q = ((b.length == 0) = false ∧ a.length + 2 ≤ sizeLine ∧ ∀ p, H p = none → Q (.ref p) (upd H p (.lst ((Txt.split a b).map V.str)))) := rfl
theorem mt_splX : MtR X "str.split" splM := MtR.imp mt_split fun x xs H Q h => by
  unfold splM at h
  split at h
  · obtain ⟨h1, h2, q⟩ := h
    exact ⟨_, _, rfl, rfl, h1, h2, q⟩
  · exact h.elim
section
variable {o e : Expr} {to te : TE} {apos pos : Pos}
theorem pe_joinX (ho : PE X o to) (he : PE X e te) (hs : starEach [e] X.env = [(false, eval e X.env)] := by rfl) (hbase : attributeBase o "join" X.env (eval o X.env) = eval o X.env := by rfl) (hline : (apos.endLine == pos.line) = true := by rfl) :
    PE X (.Call (.Attribute o "join" apos) [e] [] pos) (tM1 joinM to te) := pe_m1 PySem.F.slot_str_join PySem.F.type_str_join mt_joinX ho he hs hbase hline
theorem pe_splitX (ho : PE X o to) (he : PE X e te) (hs : starEach [e] X.env = [(false, eval e X.env)] := by rfl) (hbase : attributeBase o "split" X.env (eval o X.env) = eval o X.env := by rfl) (hline : (apos.endLine == pos.line) = true := by rfl) :
    PE X (.Call (.Attribute o "split" apos) [e] [] pos) (tM1 splM to te) := pe_m1 PySem.F.slot_str_split PySem.F.type_str_split mt_splX ho he hs hbase hline
end
end
end M
namespace M
open PySem L2
theorem at_last {α : Type} {xs : List α} {x : α} (h : xs.getLast? = some x) : atI xs (-1) = some x := by
  have hne : xs ≠ [] := by rintro rfl; cases h
  have hl : 0 < xs.length := by cases xs with | nil => exact absurd rfl hne | cons _ _ => simp
  rw [List.getLast?_eq_getElem?] at h
  unfold atI
  have e : ixN xs.length (-1) = some (xs.length - 1) := by
    unfold ixN
    first
      | (simp; omega)
      | (split <;> first | omega | (split <;> first | omega | (congr 1; omega)))
  rw [e]
  exact h
end M
namespace M
open PySem L2
end M
namespace M
open PySem L2
theorem join_nil : Txt.join (Str.ofString "") [] = Str.ofString "" := by decide
theorem join_snoc (ys : List Str) (y : Str) : Txt.join (Str.ofString "") (ys ++ [y]) = Txt.join (Str.ofString "") ys ++ y := by
  have e0 : (Str.ofString "").cps = #[] := by decide
  have cat : ∀ a b : Str, (a ++ b).cps = a.cps ++ b.cps := fun _ _ => rfl
  have ext : ∀ {a b : Str}, a.cps = b.cps → a = b := fun {a b} h => by cases a; cases b; cases h; rfl
  apply ext
  rw [cat]
  unfold Txt.join Builtin.Str.glued
  cases ys with
  | nil =>
    show y.cps = #[] ++ y.cps
    simp
  | cons z r =>
    show (r ++ [y]).foldl (fun acc p => acc ++ (Str.ofString "").cps ++ p.cps) z.cps = r.foldl (fun acc p => acc ++ (Str.ofString "").cps ++ p.cps) z.cps ++ y.cps
    rw [List.foldl_append, e0]
    simp
end M

set_option maxHeartbeats 4000000
namespace M
open PySem PySem.Spec PyProof.Rows L2
def Ites (x : Str) : It :=
  ⟨fun i _ => i < x.cps.size, fun i H v H' => ∃ T c, v = .ref T ∧ H T = none ∧ H' = upd H T (.tup [.int (i : Nat), .str ⟨#[c]⟩]) ∧ x.cps[i]? = some c, fun i _ => i = x.cps.size⟩
def iEnumS (ta : TA) : TI := fun σ H R => ta σ H fun vs H1 => ∃ x, vs = [.str x] ∧ R (Ites x) H1
section
variable {K : PySem.W.Frag} {g : TG} {tb : TS} {D : Ends} {σ : L2.St} {H : Hp}
def itE (J : It) (g : TG) (tb : TS) (D : Ends) (σ : L2.St) (H1 : Hp) : Prop := ∃ W : Nat → Nat → L2.St → Hp → Prop, (∃ m, W 0 m σ H1) ∧ ∀ i m σ H, W i m σ H →
  (J.stop i H ∧ D.nx σ H) ∨ (J.go i H ∧ ∃ N : L2.St → Hp → Prop, (∀ σ' H', N σ' H' → ∃ m', m' < m ∧ W (i + 1) m' σ' H') ∧ ∀ x H', J.yld i H x H' → g x σ H' fun σ2 H2 => tb { D with nx := N, ct := N, bk := D.nx } σ2 H2)
def forEs (g : TG) (tb : TS) (D : Ends) (σ : L2.St) (v : V) (H : Hp) : Prop := ∃ x, [v] = [V.str x] ∧ itE (Ites x) g tb D σ H
theorem e_forEs {ta : TE} : tFor (iEnumS (tCons ta tNil)) g tb D σ H = ta σ H fun v H1 => forEs g tb D σ v H1 := rfl
end
end M

set_option maxHeartbeats 4000000
namespace M
open PySem L2
def stB (below e t : Int) : Int := if e + t ≥ below then 1 else 0
def stE (below e t : Int) : Int := if e + t ≥ below then e + t - below else e + t
def lastE (below e : Int) (ts : List Int) : Int := ts.foldl (stE below) e
def bitsE (below e : Int) : List Int → List Int
  | [] => []
  | t :: ts => stB below e t :: bitsE below (stE below e t) ts
theorem lastE_snoc (below e : Int) (ts : List Int) (t : Int) : lastE below e (ts ++ [t]) = stE below (lastE below e ts) t := by
  unfold lastE; rw [List.foldl_append]; rfl
theorem bitsE_snoc (below : Int) (t : Int) : ∀ (ts : List Int) (e : Int), bitsE below e (ts ++ [t]) = bitsE below e ts ++ [stB below (lastE below e ts) t]
  | [], e => rfl
  | u :: ts, e => by
    rw [List.cons_append, bitsE, bitsE_snoc below t ts, bitsE, List.cons_append]; rfl
theorem bitsE_len (below : Int) : ∀ (ts : List Int) (e : Int), (bitsE below e ts).length = ts.length
  | [], e => rfl
  | u :: ts, e => by rw [bitsE, List.length_cons, bitsE_len below ts, List.length_cons]
def rowS (bs : List Int) : Str := Txt.join "" (bs.map fun b => toString b)
theorem bits01 (below : Int) : ∀ (ts : List Int) (e : Int), ∀ b ∈ bitsE below e ts, b = 0 ∨ b = 1
  | [], e => by simp [bitsE]
  | t :: ts, e => by
    intro b hb
    rw [bitsE, List.mem_cons] at hb
    rcases hb with rfl | hb
    · unfold stB; split <;> simp
    · exact bits01 below ts _ b hb
theorem row_len : ∀ (bs : List Int), (∀ b ∈ bs, b = 0 ∨ b = 1) → ((bs.map fun b => (Str.ofString (toString b))).map (·.length)).sum = bs.length
  | [], _ => rfl
  | b :: bs, h => by
    have ih := row_len bs fun c hc => h c (by simp [hc])
    have hb : (Str.ofString (toString b)).length = 1 := by
      rcases h b (by simp) with rfl | rfl <;> decide
    rw [List.map_cons, List.map_cons, List.sum_cons, ih, hb, List.length_cons]; omega
theorem rowS_snoc (bs : List Int) (b : Int) : rowS (bs ++ [b]) = rowS bs ++ Str.ofString (toString b) := by
  unfold rowS
  rw [List.map_append]
  exact join_snoc _ _
theorem rowS_nil : rowS [] = Str.ofString "" := join_nil
theorem rowS_len : ∀ (n : Nat) (bs : List Int), bs.length = n → (∀ b ∈ bs, b = 0 ∨ b = 1) → (rowS bs).length = bs.length
  | 0, bs, h, _ => by
    have : bs = [] := List.length_eq_zero_iff.mp h
    subst this
    rw [rowS_nil]; decide
  | n + 1, bs, h, h01 => by
    rcases List.eq_nil_or_concat bs with rfl | ⟨l, b, rfl⟩
    · cases h
    · rw [List.concat_eq_append] at h h01 ⊢
      have ih := rowS_len n l (by simp at h; exact h) fun c hc => h01 c (by simp [hc])
      have hb : (Str.ofString (toString b)).cps.size = 1 := by
        rcases h01 b (by simp) with rfl | rfl <;> decide
      rw [rowS_snoc]
      have e : (rowS l ++ Str.ofString (toString b)).length = (rowS l).length + (Str.ofString (toString b)).cps.size := by
        show ((rowS l).cps ++ (Str.ofString (toString b)).cps).size = _
        rw [Array.size_append]; rfl
      rw [e, ih, hb]; simp

theorem stE_in {below e t : Int} (h : 0 ≤ e ∧ e < below) (ht : 0 ≤ t ∧ t ≤ below) : 0 ≤ stE below e t ∧ stE below e t < below := by
  unfold stE; split <;> omega
theorem st_sum (below e t : Int) : below * stB below e t + stE below e t = e + t := by
  unfold stB stE; split
  · rw [Int.mul_one]; omega
  · rw [Int.mul_zero]; omega
theorem lastE_in {below : Int} : ∀ {ts : List Int} {e : Int}, 0 ≤ e ∧ e < below → (∀ t ∈ ts, 0 ≤ t ∧ t ≤ below) → 0 ≤ lastE below e ts ∧ lastE below e ts < below
  | [], e, h, _ => h
  | t :: ts, e, h, ht => lastE_in (ts := ts) (stE_in h (ht t (by simp))) fun u hu => ht u (by simp [hu])
theorem made_sum (below : Int) : ∀ (ts : List Int) (e : Int), below * (bitsE below e ts).sum + lastE below e ts = e + ts.sum
  | [], e => by simp [bitsE, lastE]
  | t :: ts, e => by
    rw [bitsE, List.sum_cons, List.sum_cons, Int.mul_add]
    have h1 := made_sum below ts (stE below e t)
    have h2 := st_sum below e t
    have h3 : lastE below e (t :: ts) = lastE below (stE below e t) ts := rfl
    rw [h3]; omega
theorem fdiv_of {a b q r : Int} (h : b * q + r = a) (h0 : 0 ≤ r) (h1 : r < b) : a.fdiv b = q := by
  have hb : 0 < b := by omega
  rw [Int.fdiv_eq_ediv_of_nonneg _ (by omega), ← h, Int.add_comm, Int.add_mul_ediv_left _ _ (by omega), Int.ediv_eq_zero_of_lt h0 h1, Int.zero_add]
theorem str_app (x y : Str) : (x ++ y).cps = x.cps ++ y.cps := rfl
theorem rowS_get : ∀ (n : Nat) (bs : List Int), bs.length = n → (∀ b ∈ bs, b = 0 ∨ b = 1) → ∀ (i : Nat) c, (rowS bs).cps[i]? = some c → ∃ b, bs[i]? = some b ∧ (⟨#[c]⟩ : Str) = Str.ofString (toString b)
  | 0, bs, h, _, i, c, hc => by
    have : bs = [] := List.length_eq_zero_iff.mp h
    subst this
    rw [rowS_nil] at hc
    have e : (Str.ofString "").cps = #[] := by decide
    rw [e] at hc; simp at hc
  | n + 1, bs, h, h01, i, c, hc => by
    rcases List.eq_nil_or_concat bs with rfl | ⟨l, b, rfl⟩
    · cases h
    · rw [List.concat_eq_append] at h h01 hc ⊢
      have hl : l.length = n := by simpa using h
      have h01l : ∀ c ∈ l, c = 0 ∨ c = 1 := fun c hc => h01 c (by simp [hc])
      have hsz := rowS_len n l hl h01l
      have hsz' : (rowS l).cps.size = l.length := hsz
      rw [rowS_snoc, str_app] at hc
      by_cases hi : i < l.length
      · rw [Array.getElem?_append_left (by omega)] at hc
        obtain ⟨x, e1, e2⟩ := rowS_get n l hl h01l i c hc
        exact ⟨x, by rw [List.getElem?_append_left hi]; exact e1, e2⟩
      · rw [Array.getElem?_append_right (by omega)] at hc
        have hb : ∃ d, (Str.ofString (toString b)).cps = #[d] := by
          rcases h01 b (by simp) with rfl | rfl
          · exact ⟨48, by decide⟩
          · exact ⟨49, by decide⟩
        obtain ⟨d, hd⟩ := hb
        rw [hd] at hc
        have hi' : i - (rowS l).cps.size = 0 := by
          have := (Array.getElem?_eq_some_iff.mp hc).1
          simpa using this
        rw [hi'] at hc
        have : d = c := by simpa using hc
        subst this
        have hil : i = l.length := by omega
        refine ⟨b, by rw [hil]; simp, ?_⟩
        rw [← hd]
theorem ne_new {H : Hp} {p q : Addr} {o : HO} (h : H p = some o) (hq : H q = none) : p ≠ q := fun e => by subst e; rw [h] at hq; cases hq
def Sms (H : Hp) (n : Nat) (xs ys : List V) : Prop := xs.length = ys.length ∧ ∀ (i : Nat) (x y : V), xs[i]? = some x → ys[i]? = some y → Sm H n x y
theorem Sms.nil {H : Hp} {n : Nat} : Sms H n [] [] := ⟨rfl, fun i x y h _ => by simp at h⟩
theorem Sms.cons {H : Hp} {n : Nat} {x y : V} {xs ys : List V} (h : Sm H n x y) (r : Sms H n xs ys) : Sms H n (x :: xs) (y :: ys) :=
  ⟨by simp [r.1], fun i u v hu hv => match i, hu, hv with
    | 0, hu, hv => by
      simp at hu hv; subst hu hv; exact h
    | i + 1, hu, hv => r.2 i u v (by simpa using hu) (by simpa using hv)⟩
theorem Sm.flat {H : Hp} {n : Nat} {x : V} (h : flt x = true) : Sm H (n + 1) x x := .inl ⟨rfl, h⟩
theorem Sms.flat {H : Hp} {n : Nat} {xs : List V} (h : ∀ x ∈ xs, flt x = true) : Sms H (n + 1) xs xs :=
  ⟨rfl, fun i x y hx hy => by
    rw [hx] at hy; cases hy
    exact .flat (h x (List.mem_of_getElem? hx))⟩
theorem Sm.lst {H : Hp} {n : Nat} {a b : Addr} {xs ys : List V} (h1 : H a = some (.lst xs)) (h2 : H b = some (.lst ys)) (hz : xs.length ≤ 1000000) (h : Sms H n xs ys) : Sm H (n + 1) (.ref a) (.ref b) :=
  .inr (.inl ⟨a, b, xs, ys, rfl, rfl, h1, h2, h.1, hz, h.2⟩)
theorem Sm.tup {H : Hp} {n : Nat} {a b : Addr} {xs ys : List V} (h1 : H a = some (.tup xs)) (h2 : H b = some (.tup ys)) (hz : xs.length ≤ 1000000) (h : Sms H n xs ys) : Sm H (n + 1) (.ref a) (.ref b) :=
  .inr (.inr ⟨a, b, xs, ys, rfl, rfl, h1, h2, h.1, hz, h.2⟩)
theorem bitsE_take (below : Int) : ∀ (ts : List Int) (e : Int) (i : Nat), (bitsE below e ts).take i = bitsE below e (ts.take i)
  | [], e, i => by simp [bitsE]
  | t :: ts, e, 0 => rfl
  | t :: ts, e, i + 1 => by
    rw [bitsE, List.take_succ_cons, List.take_succ_cons, bitsE, bitsE_take below ts]
structure ClX (mg : Str → Option Value) (bits part place start top share short much unlike sheet : Addr) : Prop where
  e0 : mg "BitsError" = some (.ref bits)
  e1 : mg "BadPart" = some (.ref part)
  e2 : mg "NoPlace" = some (.ref place)
  e3 : mg "NoStart" = some (.ref start)
  e4 : mg "NoTop" = some (.ref top)
  e5 : mg "NoShare" = some (.ref share)
  e6 : mg "TooShort" = some (.ref short)
  e7 : mg "TooMuch" = some (.ref much)
  e8 : mg "UnlikeRows" = some (.ref unlike)
  e9 : mg "BadSheet" = some (.ref sheet)
  nd : [part, place, start, top, share, short, much, unlike, sheet].Nodup
end M

set_option maxHeartbeats 4000000
namespace M
open PySem L2 PyProof.Rows
def noE (sp : Sp) : Sp := fun vs H Q _ => sp vs H Q E0
theorem CalX.cal {P : Program} {w : World} {K : PySem.W.Frag} {mg : Str → Option Value} {base : Heap} {x : Str} {k : Nat} {ps : List Str} {sp : Sp} (C : CalX P w K mg base x k ps sp) : Cal P w K mg base x k ps (noE sp) := by
  obtain ⟨f, fd, F, hm, hk, hb⟩ := C.ex
  refine ⟨f, fd, ⟨fun vs H Q E h => F.len vs H Q E0 h, fun A outer s H args us vs Q E hr he hbd hv hs => ?_⟩, hm, hk, hb⟩
  refine codeAny_mono (F.run A outer s H args us vs Q E0 hr he hbd hv hs) fun r s' h => ?_
  match r, h with
  | .ok (.ret u), h => exact h
  | .error e, h =>
    obtain ⟨x, C, a0, B, H', y⟩ := h
    exact y.q.elim
section
variable {X : Cx}
def rMulY : R2 := fun x y H Q => match x, y with
  | .int i, .int j => IntMulOk i j ∧ Q (.int (i * j)) H
  | .ref p, .int k => repO (H p) k fun o => ∀ q, H q = none → Q (.ref q) (upd H q o)
  | .str z, .int n => MulOk z n ∧ Q (.str (Txt.mul z n)) H
  | _, _ => False
theorem op_mulY : OpR X (binaryOp .Mult) rMulY := by
  intro pins s σ H x y v u Q I rx ry h
  unfold rMulY at h
  split at h
  · exact op_mulX pins s σ H _ _ v u Q I rx ry h
  · exact op_mulX pins s σ H _ _ v u Q I rx ry h
  · rename_i z n
    obtain ⟨t, rfl⟩ := rx
    obtain ⟨t', rfl⟩ := ry
    exact SB.mul h.1 fun t2 k => ⟨.str (Txt.mul z n), H, I.tok k, ⟨t2, rfl⟩, h.2⟩
  · exact h.elim
theorem e_mulY_ii {i j : Int} {H : Hp} {Q : VK} : rMulY (.int i) (.int j) H Q = (IntMulOk i j ∧ Q (.int (i * j)) H) := rfl
theorem e_mulY_ri {a : Addr} {j : Int} {H : Hp} {Q : VK} : rMulY (.ref a) (.int j) H Q = repO (H a) j fun o => ∀ q, H q = none → Q (.ref q) (upd H q o) := rfl
theorem e_mulY_si {z : Str} {n : Int} {H : Hp} {Q : VK} : rMulY (.str z) (.int n) H Q = (MulOk z n ∧ Q (.str (Txt.mul z n)) H) := rfl
end
theorem mulok_of {z : Str} {n : Int} (h1 : 1 ≤ n) (h2 : n ≤ 1000000) (hz : z.length * n.toNat ≤ 16000000) (hl : z.length ≤ 16000000) : MulOk z n := by
  refine ⟨?_, fun _ _ => ?_, fun _ _ => ?_⟩
  · rw [decide_eq_false (by omega), decide_eq_false (by omega)]; rfl
  · have : (9223372036854 : Int) ≤ (2 ^ 63 - 1) / n := by
      rw [Int.le_ediv_iff_mul_le (by omega)]
      have : (9223372036854 : Int) * n ≤ 9223372036854 * 1000000 := Int.mul_le_mul_of_nonneg_left h2 (by decide)
      omega
    omega
  · unfold Builtin.Str.tooLong
    rw [decide_eq_false_iff_not]
    have : (16777216 : Nat) = sizeLine := rfl
    omega
theorem foldl_arr {α : Type} (l : List (Array α)) (a : Array α) : (l.foldl (· ++ ·) a).toList = a.toList ++ (l.map Array.toList).flatten := by
  induction l generalizing a with
  | nil => simp
  | cons x l ih => rw [List.foldl_cons, ih]; simp
theorem mul_list {z : Str} {n : Int} (h1 : 1 ≤ n) : (Txt.mul z n).cps.toList = (List.replicate n.toNat z.cps.toList).flatten := by
  unfold Txt.mul
  rw [if_neg (by omega)]
  split
  · rename_i h
    simp only [Bool.or_eq_true, beq_iff_eq] at h
    rcases h with h | h
    · subst h; simp
    · have e : z.cps.toList = [] := List.length_eq_zero_iff.mp (by rw [Array.length_toList]; exact h)
      rw [e]
      simp
  · show (List.foldl (fun x1 x2 => x1 ++ x2) #[] (List.replicate n.toNat z.cps)).toList = _
    rw [foldl_arr]
    simp [List.map_replicate]
def sg1 (b : Int) : Nat := if b = 1 then 49 else 48
theorem row_list : ∀ (n : Nat) (bs : List Int), bs.length = n → (∀ b ∈ bs, b = 0 ∨ b = 1) → (rowS bs).cps.toList = bs.map sg1
  | 0, bs, h, _ => by
    have : bs = [] := List.length_eq_zero_iff.mp h
    subst this
    rw [rowS_nil]; decide
  | n + 1, bs, h, h01 => by
    rcases List.eq_nil_or_concat bs with rfl | ⟨l, b, rfl⟩
    · cases h
    · rw [List.concat_eq_append] at h h01 ⊢
      have ih := row_list n l (by simp at h; exact h) fun c hc => h01 c (by simp [hc])
      rw [rowS_snoc, str_app, Array.toList_append, ih, List.map_append]
      congr 1
      rcases h01 b (by simp) with rfl | rfl <;> decide
theorem str_ext {x y : Str} (h : x.cps.toList = y.cps.toList) : x = y := by
  obtain ⟨⟨a⟩⟩ := x
  obtain ⟨⟨b⟩⟩ := y
  simp only at h
  rw [h]
theorem cut_to {z : Str} {m : Nat} : (cutS z none (some (m : Int))).cps.toList = z.cps.toList.take m := by
  show (((z.cps.toList.drop (HT.sIx z.length 0 none)).take (HT.sIx z.length z.length (some (m : Int)) - HT.sIx z.length 0 none)).toArray).toList = _
  rw [HT.sIx_none, HT.sIx_nat, List.drop_zero, Nat.sub_zero]
  simp only []
  by_cases h : m ≤ z.length
  · rw [Nat.min_eq_left h]
  · rw [Nat.min_eq_right (by omega)]
    have e : z.cps.toList.length = z.length := by rw [Array.length_toList]; rfl
    rw [List.take_of_length_le (by omega), List.take_of_length_le (by omega)]
theorem sum_rep (n : Nat) (x : Int) : (List.replicate n x).sum = (n : Int) * x := by
  induction n with
  | zero => simp
  | succ n ih => rw [List.replicate_succ, List.sum_cons, ih]; have : ((n + 1 : Nat) : Int) = (n : Int) + 1 := by omega
                 rw [this, Int.add_mul]; omega
theorem rep_in {n : Nat} {top below : Int} (h : 0 ≤ top ∧ top ≤ below) : ∀ t ∈ List.replicate n top, 0 ≤ t ∧ t ≤ below := fun t ht => by
  rw [List.eq_of_mem_replicate ht]; exact h
theorem map_flatten_rep {α β : Type} (f : α → β) (l : List α) (k : Nat) : (List.replicate k (l.map f)).flatten = ((List.replicate k l).flatten).map f := by
  induction k with
  | zero => rfl
  | succ k ih => rw [List.replicate_succ, List.flatten_cons, ih, List.replicate_succ, List.flatten_cons, List.map_append]
theorem fmod_in {A b : Int} (hb : 0 < b) : 0 ≤ A.fmod b ∧ A.fmod b < b := ⟨Int.fmod_nonneg_of_pos A hb, Int.fmod_lt_of_pos A hb⟩
end M

set_option maxHeartbeats 4000000
namespace M
open PySem L2
section
variable {C : Addr} {H : Hp} {Q : VK} {E : XK} {sh : Addr} {top below st many : Int}
end
theorem flat_rep {α : Type} (n : Nat) (x : α) : (List.replicate n [x]).flatten = List.replicate n x := by
  induction n with
  | zero => rfl
  | succ n ih => rw [List.replicate_succ, List.flatten_cons, ih, List.replicate_succ]; rfl
theorem red_share {t b T B : Int} (h : Red t b T B) (h0 : 0 ≤ T) (h1 : T ≤ B) (hB : 1 ≤ B) : 0 ≤ t ∧ t ≤ b := by
  have hp := h.pos
  have e := h.eq
  constructor
  · by_cases hn : 0 ≤ t
    · exact hn
    · exfalso
      have a1 : t * B < 0 := Int.mul_neg_of_neg_of_pos (by omega) (by omega)
      have a2 : 0 ≤ T * b := Int.mul_nonneg h0 (by omega)
      omega
  · by_cases hn : t ≤ b
    · exact hn
    · exfalso
      have a1 : b * B < t * B := Int.mul_lt_mul_of_pos_right (by omega) (by omega)
      have a2 : T * b ≤ B * b := Int.mul_le_mul_of_nonneg_right h1 (by omega)
      rw [Int.mul_comm B b] at a2
      omega
theorem red_le {t b T B : Int} (h : Red t b T B) (hB : 1 ≤ B) : b ≤ B := by
  have d : b ∣ t * B := ⟨T, by rw [h.eq, Int.mul_comm]⟩
  exact Int.le_of_dvd (by omega) (dvd_cop d (by rw [Int.gcd_comm]; exact h.cop))
theorem mul64r {x y : Int} (h1 : -18446744073709551616 < y) (h2 : y < 18446744073709551616) : IntMulOk x y := IntMulOk.of_right (bits_64 h1 h2)
theorem Box.kp {H H' : Hp} {b c : Addr} {T : Int} (x : Box H b c T) (k : Kp [] H H') : Box H' b c T := by
  obtain ⟨ns, t, h1, h2, r⟩ := x.ex
  exact ⟨ns, t, k b _ (by simp) h1, k c _ (by simp) h2, r⟩
end M

set_option maxHeartbeats 4000000
namespace M
open PySem PySem.Spec PyProof.Rows L2
abbrev TXS := L2.St → Hp → (L2.St → Hp → Prop) → XK → Prop
section
variable {X : Cx}
def xAsg (i : Nat) (te : TX) : TXS := fun σ H N R => te σ H (fun v H1 => N (σ.set i (some v)) H1) R
def xExp (te : TX) : TXS := fun σ H N R => te σ H (fun _ H1 => N σ H1) R
def xIf (tc : TT) (t u : TXS) : TXS := fun σ H N R => tc σ H fun c H1 => if c = true then t σ H1 N R else u σ H1 N R
def tTryS (K : PySem.W.Frag) (n : Nat) (te : TXS) (Dc : Addr) (ts : TS) : TS := fun D σ H => te σ H D.nx fun c _ H1 => ∃ C, c = .ref C ∧ supIn K C Dc = true ∧ Xk K C ∧
  ∀ x, H1 x = none → ts ⟨fun σ' H' => D.nx (σ'.set n none) H', D.rt, fun σ' H' => D.bk (σ'.set n none) H', fun σ' H' => D.ct (σ'.set n none) H'⟩ (σ.set n (some (.ref x))) (upd H1 x (xcO C x))
end
section
variable {K : PySem.W.Frag} {g : TG} {tb : TS} {D : Ends} {σ : L2.St} {H : Hp}
def forEl (K : PySem.W.Frag) (g : TG) (tb : TS) (D : Ends) (σ : L2.St) (v : V) (H : Hp) : Prop := ∃ a xs, [v] = [V.ref a] ∧ SqL K H a xs ∧ itE (Ite K a) g tb D σ H
theorem e_forEl {ta : TE} : tFor (iEnum K (tCons ta tNil)) g tb D σ H = ta σ H fun v H1 => forEl K g tb D σ v H1 := rfl
end
section
variable {X : Cx} {K : PySem.W.Frag}
theorem op_eqK (hK : X.K = K) (hu : X.A.units + 64 < cLine) : OpR X (compareOp .Eq) (rEqX K) := by subst hK; exact op_eqX hu
theorem op_neK (hK : X.K = K) (hu : X.A.units + 64 < cLine) : OpR X (compareOp .NotEq) (rNeX K) := by subst hK; exact op_neX hu
end
theorem row_at {bs : List Int} (h01 : ∀ b ∈ bs, b = 0 ∨ b = 1) {j : Nat} {b : Int} (hb : bs[j]? = some b) : ∃ c, atI (rowS bs).cps.toList (j : Int) = some c ∧ (⟨#[c]⟩ : Str) = Str.ofString (toString b) := by
  refine ⟨sg1 b, at_in (by omega) ?_, ?_⟩
  · rw [row_list _ _ rfl h01, List.getElem?_map]; simp [hb]
  · rcases h01 b (List.mem_of_getElem? hb) with rfl | rfl <;> decide
theorem int_bit {b : Int} (h : b = 0 ∨ b = 1) : PySem.intText? (Str.ofString (toString b)) = some b ∧ (Str.ofString (toString b)).length ≤ 640 := by
  rcases h with rfl | rfl
  · exact ⟨by decide +kernel, by decide⟩
  · exact ⟨by decide +kernel, by decide⟩
end M

set_option maxHeartbeats 4000000
namespace M
open PySem L2 PyProof.Rows
section
variable {X : Cx} {o e : Expr} {to te : TE} {apos pos : Pos}
def stwM : V → List V → Hp → VK → Prop := fun x xs H Q => match x, xs with
  | .str a, [.str b] => Q (.bl (Txt.startswith a b)) H
  | _, _ => False
theorem e_stw {a b : Str} {H : Hp} {Q : VK} : stwM (.str a) [.str b] H Q = Q (.bl (Txt.startswith a b)) H := rfl
end
theorem row_eq {z : Str} {bs : List Int} (h01 : ∀ b ∈ bs, b = 0 ∨ b = 1) (h : z.cps.toList = bs.map sg1) : z = rowS bs := str_ext (by rw [h, row_list _ _ rfl h01])
theorem app01 {a b : List Int} (ha : ∀ x ∈ a, x = 0 ∨ x = 1) (hb : ∀ x ∈ b, x = 0 ∨ x = 1) : ∀ x ∈ a ++ b, x = 0 ∨ x = 1 := fun x hx => by
  rcases List.mem_append.mp hx with h | h
  · exact ha x h
  · exact hb x h
theorem take01 {a : List Int} {n : Nat} (ha : ∀ x ∈ a, x = 0 ∨ x = 1) : ∀ x ∈ a.take n, x = 0 ∨ x = 1 := fun x hx => ha x (List.mem_of_mem_take hx)
theorem drop01 {a : List Int} {n : Nat} (ha : ∀ x ∈ a, x = 0 ∨ x = 1) : ∀ x ∈ a.drop n, x = 0 ∨ x = 1 := fun x hx => ha x (List.mem_of_mem_drop hx)
theorem rowS_app {a b : List Int} (ha : ∀ x ∈ a, x = 0 ∨ x = 1) (hb : ∀ x ∈ b, x = 0 ∨ x = 1) : rowS a ++ rowS b = rowS (a ++ b) := row_eq (app01 ha hb) (by
  rw [str_app, Array.toList_append, row_list _ _ rfl ha, row_list _ _ rfl hb, List.map_append])
theorem rowS_to {bs : List Int} {m : Nat} (h : ∀ x ∈ bs, x = 0 ∨ x = 1) : cutS (rowS bs) none (some (m : Int)) = rowS (bs.take m) := row_eq (take01 h) (by
  rw [cut_to, row_list _ _ rfl h, List.map_take])
theorem cut_from {z : Str} {m : Nat} : (cutS z (some (m : Int)) none).cps.toList = z.cps.toList.drop m := by
  show (((z.cps.toList.drop (HT.sIx z.length 0 (some (m : Int)))).take (HT.sIx z.length z.length none - HT.sIx z.length 0 (some (m : Int)))).toArray).toList = _
  rw [HT.sIx_none, HT.sIx_nat]
  have e : z.cps.toList.length = z.length := by rw [Array.length_toList]; rfl
  simp only []
  by_cases h : m ≤ z.length
  · rw [Nat.min_eq_left h, List.take_of_length_le (by rw [List.length_drop]; omega)]
  · rw [Nat.min_eq_right (by omega), Nat.sub_self, List.take_zero, List.drop_of_length_le (by omega)]
theorem rowS_from {bs : List Int} {m : Nat} (h : ∀ x ∈ bs, x = 0 ∨ x = 1) : cutS (rowS bs) (some (m : Int)) none = rowS (bs.drop m) := row_eq (drop01 h) (by
  rw [cut_from, row_list _ _ rfl h, List.map_drop])
theorem row_size {bs : List Int} (h : ∀ x ∈ bs, x = 0 ∨ x = 1) : (rowS bs).length = bs.length := rowS_len _ _ rfl h
theorem flat01 {bs : List Int} {k : Nat} (h : ∀ x ∈ bs, x = 0 ∨ x = 1) : ∀ x ∈ (List.replicate k bs).flatten, x = 0 ∨ x = 1 := fun x hx => by
  obtain ⟨l, hl, hx⟩ := List.mem_flatten.mp hx
  rw [List.eq_of_mem_replicate hl] at hx
  exact h x hx
theorem rowS_mul {bs : List Int} {k : Int} (h : ∀ x ∈ bs, x = 0 ∨ x = 1) (hk : 1 ≤ k) : Txt.mul (rowS bs) k = rowS (List.replicate k.toNat bs).flatten := row_eq (flat01 h) (by
  rw [mul_list hk, row_list _ _ rfl h, map_flatten_rep])
theorem row_one {b : Int} (h : b = 0 ∨ b = 1) : Str.ofString (toString b) = rowS [b] := row_eq (by simpa using h) (by rcases h with rfl | rfl <;> decide)
theorem other_bit {b : Int} (h : b = 0 ∨ b = 1) : ∃ c, atI (Str.ofString "10").cps.toList b = some c ∧ (⟨#[c]⟩ : Str) = rowS [1 - b] := by
  rcases h with rfl | rfl
  · exact ⟨49, by decide, row_eq (by simp) (by decide)⟩
  · exact ⟨48, by decide, row_eq (by simp) (by decide)⟩
end M

set_option maxHeartbeats 4000000
namespace M
open PySem L2 PyProof.Rows
section
variable {X : Cx}
def maxY : List V → Hp → VK → Prop := fun xs H Q => match xs with
  | [.int i, .int j] => Q (.int (if j > i then j else i)) H
  | [.ref p] => ∃ ns : List Int, H p = some (.lst (ns.map V.int)) ∧ 0 < ns.length ∧ ∀ m, m ∈ ns → (∀ y, y ∈ ns → y ≤ m) → Q (.int m) H
  | _ => False
def minY : List V → Hp → VK → Prop := fun xs H Q => match xs with
  | [.int i, .int j] => Q (.int (if j < i then j else i)) H
  | [.ref p] => ∃ ns : List Int, H p = some (.lst (ns.map V.int)) ∧ 0 < ns.length ∧ ∀ m, m ∈ ns → (∀ y, y ∈ ns → m ≤ y) → Q (.int m) H
  | _ => False
theorem call_maxY (hc : X.calm = true) : CallR X (.builtin "max") maxY := CallR.imp (CallR.or (call_max2 hc) (cr_max hc)) fun xs H Q h => by
  unfold maxY at h
  split at h
  · exact .inl ⟨_, _, rfl, h⟩
  · obtain ⟨ns, h1, h2, h3⟩ := h
    exact .inr ⟨_, ns, rfl, SqL.of h1, h2, h3⟩
  · exact h.elim
theorem call_minY (hc : X.calm = true) : CallR X (.builtin "min") minY := CallR.imp (CallR.or (call_min2 hc) (cr_min hc)) fun xs H Q h => by
  unfold minY at h
  split at h
  · exact .inl ⟨_, _, rfl, h⟩
  · obtain ⟨ns, h1, h2, h3⟩ := h
    exact .inr ⟨_, ns, rfl, SqL.of h1, h2, h3⟩
  · exact h.elim
def anyY : List V → Hp → VK → Prop := fun xs H Q => match xs with
  | [.ref p] => ∃ bs : List Bool, H p = some (.lst (bs.map V.bl)) ∧ Q (.bl (bs.any id)) H
  | _ => False
def sumY : List V → Hp → VK → Prop := fun xs H Q => match xs with
  | [.ref p] => ∃ ns : List Int, H p = some (.lst (ns.map V.int)) ∧ Q (.int ns.sum) H
  | _ => False
variable {i j : Int} {p : Addr} {H : Hp} {Q : VK}
theorem e_maxY_ii : maxY [.int i, .int j] H Q = Q (.int (if j > i then j else i)) H := rfl
theorem e_maxY_r : maxY [.ref p] H Q = ∃ ns : List Int, H p = some (.lst (ns.map V.int)) ∧ 0 < ns.length ∧ ∀ m, m ∈ ns → (∀ y, y ∈ ns → y ≤ m) → Q (.int m) H := rfl
theorem e_minY_ii : minY [.int i, .int j] H Q = Q (.int (if j < i then j else i)) H := rfl
theorem e_minY_r : minY [.ref p] H Q = ∃ ns : List Int, H p = some (.lst (ns.map V.int)) ∧ 0 < ns.length ∧ ∀ m, m ∈ ns → (∀ y, y ∈ ns → m ≤ y) → Q (.int m) H := rfl
theorem e_anyY : anyY [.ref p] H Q = ∃ bs : List Bool, H p = some (.lst (bs.map V.bl)) ∧ Q (.bl (bs.any id)) H := rfl
theorem e_sumY : sumY [.ref p] H Q = ∃ ns : List Int, H p = some (.lst (ns.map V.int)) ∧ Q (.int ns.sum) H := rfl
end
def runL (o : Int) : List Int → List Int
  | [] => [o]
  | x :: xs => o :: runL (o + x) xs
theorem runL_len : ∀ (xs : List Int) (o : Int), (runL o xs).length = xs.length + 1
  | [], o => rfl
  | x :: xs, o => by rw [runL, List.length_cons, runL_len xs, List.length_cons]
theorem runL_mem (xs : List Int) (o : Int) : o ∈ runL o xs := by cases xs <;> simp [runL]
def exL (t u : Int) (bs : List Int) : List Int := bs.map fun b => u * b - t
theorem fits_iff {t u : Int} (ht : 0 ≤ t ∧ t ≤ u) : ∀ (bs : List Int) (o e : Int), (∀ b ∈ bs, b = 0 ∨ b = 1) → (0 ≤ e - o ∧ e - o < u) → (bitsE u (e - o) (List.replicate bs.length t) = bs ↔ ∀ x ∈ runL o (exL t u bs), 0 ≤ e - x ∧ e - x < u)
  | [], o, e, _, he => by
    constructor
    · intro _ x hx
      have : x = o := by simpa [exL, runL] using hx
      rw [this]; exact he
    · intro _; rfl
  | b :: bs, o, e, h01, he => by
    have hb := h01 b (by simp)
    have hst := st_sum u (e - o) t
    have hin := stE_in he ht
    rw [List.length_cons, List.replicate_succ, bitsE]
    have hr : runL o (exL t u (b :: bs)) = o :: runL (o + (u * b - t)) (exL t u bs) := rfl
    rw [hr]
    have key : stB u (e - o) t = b → stE u (e - o) t = e - (o + (u * b - t)) := by
      intro h
      rw [h] at hst
      omega
    constructor
    · intro h x hx
      injection h with h1 h2
      have e1 := key h1
      rw [e1] at h2 hin
      rcases List.mem_cons.mp hx with rfl | hx
      · exact he
      · exact (fits_iff ht bs _ e (fun c hc => h01 c (by simp [hc])) hin).mp h2 x hx
    · intro h
      have h1 : 0 ≤ e - (o + (u * b - t)) ∧ e - (o + (u * b - t)) < u := h _ (by
        refine List.mem_cons_of_mem _ (runL_mem _ _))
      have hs : stB u (e - o) t = b := by
        unfold stB
        rcases hb with rfl | rfl
        · rw [Int.mul_zero] at h1; rw [if_neg (by omega)]
        · rw [Int.mul_one] at h1; rw [if_pos (by omega)]
      have e1 := key hs
      rw [hs, e1]
      rw [(fits_iff ht bs _ e (fun c hc => h01 c (by simp [hc])) h1).mpr fun x hx => h x (List.mem_cons_of_mem _ hx)]
theorem some_start {t u M m : Int} {bs : List Int} (ht : 0 ≤ t ∧ t ≤ u) (hu : 1 ≤ u) (h01 : ∀ b ∈ bs, b = 0 ∨ b = 1) (hM : M ∈ runL 0 (exL t u bs)) (hM' : ∀ y ∈ runL 0 (exL t u bs), y ≤ M) (hm : m ∈ runL 0 (exL t u bs)) (hm' : ∀ y ∈ runL 0 (exL t u bs), m ≤ y) (s : Int) (hs : 0 ≤ s ∧ s < u) :
    bitsE u s (List.replicate bs.length t) = bs ↔ M ≤ s ∧ s < m + u := by
  have h := fits_iff ht bs 0 s h01 (by omega)
  rw [Int.sub_zero] at h
  rw [h]
  constructor
  · intro h
    have a := h M hM
    have b := h m hm
    omega
  · intro h x hx
    have a := hM' x hx
    have b := hm' x hx
    omega
def spLow : Sp := fun vs H Q _ => match vs with
  | [.int t, .int b] => 1 ≤ b ∧ bits b ≤ 8000 ∧ bits t ≤ 100000 ∧ ∀ q t' b', H q = none → Red t' b' t b → bits t' ≤ bits t → bits b' ≤ bits b → Q (.ref q) (upd H q (.tup [.int t', .int b']))
  | _ => False
theorem low_ok {H : Hp} {Q : VK} {E : XK} {t b : Int} (h1 : 1 ≤ b) (h2 : bits b ≤ 8000) (h3 : bits t ≤ 100000) (h : ∀ q t' b', H q = none → Red t' b' t b → bits t' ≤ bits t → bits b' ≤ bits b → Q (.ref q) (upd H q (.tup [.int t', .int b']))) : spLow [.int t, .int b] H Q E := ⟨h1, h2, h3, h⟩
theorem bend_ok {Q : Str → Prop} {bs : List Int} {k : Nat} (h01 : ∀ b ∈ bs, b = 0 ∨ b = 1) (hl : bs.length ≤ 1000) (hk : k < bs.length) (q : ∀ bs' : List Int, bs'.length = bs.length → (∀ b ∈ bs', b = 0 ∨ b = 1) → Q (rowS bs')) :
    (rowS bs).length ≤ sizeLine ∧ (rowS bs).length ≤ sizeLine ∧ ∃ c, atI (rowS bs).cps.toList (k : Int) = some c ∧ ∃ n, PySem.intText? (⟨#[c]⟩ : Str) = some n ∧ (⟨#[c]⟩ : Str).length ≤ 640 ∧ (Str.ofString "10").length ≤ sizeLine ∧ ∃ c', atI (Str.ofString "10").cps.toList n = some c' ∧
      (cutS (rowS bs) none (some (k : Int))).length + (⟨#[c']⟩ : Str).length ≤ sizeLine ∧ (rowS bs).length ≤ sizeLine ∧ (cutS (rowS bs) none (some (k : Int)) ++ (⟨#[c']⟩ : Str)).length + (cutS (rowS bs) (some ((k : Int) + 1)) none).length ≤ sizeLine ∧ Q (cutS (rowS bs) none (some (k : Int)) ++ (⟨#[c']⟩ : Str) ++ cutS (rowS bs) (some ((k : Int) + 1)) none) := by
  have hrl : (rowS bs).length ≤ sizeLine := by rw [row_size h01]; exact Nat.le_trans hl (by decide)
  obtain ⟨v, hv⟩ : ∃ v, bs[k]? = some v := ⟨_, List.getElem?_eq_getElem hk⟩
  have hv01 := h01 v (List.mem_of_getElem? hv)
  obtain ⟨ch, hch, ech⟩ := row_at h01 hv
  obtain ⟨i1, i2⟩ := int_bit hv01
  obtain ⟨co, hco, eco⟩ := other_bit hv01
  have h1 : ∀ x ∈ [1 - v], x = 0 ∨ x = 1 := by intro x hx; simp at hx; omega
  refine ⟨hrl, hrl, ch, hch, v, by rw [ech]; exact i1, by rw [ech]; exact i2, by decide, co, hco, ?_⟩
  have e4 : cutS (rowS bs) (some ((k : Int) + 1)) none = rowS (bs.drop (k + 1)) := by
    rw [show (k : Int) + 1 = ((k + 1 : Nat) : Int) by omega]; exact rowS_from h01
  have h2 := app01 (take01 (n := k) h01) h1
  rw [eco, rowS_to h01, e4, rowS_app (take01 h01) h1, rowS_app h2 (drop01 h01), row_size (take01 h01), row_size h1, row_size h2, row_size (drop01 h01)]
  refine ⟨Nat.le_trans (show _ ≤ 3000 by simp; omega) (show 3000 ≤ sizeLine by decide), hrl, Nat.le_trans (show _ ≤ 3000 by simp; omega) (show 3000 ≤ sizeLine by decide), q _ ?_ (app01 h2 (drop01 h01))⟩
  simp; omega
end M

set_option maxHeartbeats 4000000
namespace M
open PySem L2
def Starts (t u : Int) (bs : List Int) : Prop := ∃ s, (0 ≤ s ∧ s < u) ∧ bitsE u s (List.replicate bs.length t) = bs
def spLSt : Sp := fun vs H Q _ => match vs with
  | [.ref sh, .int st, .int n] => ∃ t u, H sh = some (.tup [.int t, .int u]) ∧ 0 ≤ n ∧ n ≤ 800 ∧ u ≤ 1000000 ∧ -1000000 ≤ u ∧ Q (.str (rowS (bitsE u st (List.replicate n.toNat t)))) H
  | _ => False
theorem lst_ok {H : Hp} {Q : VK} {E : XK} {sh : Addr} {t u st n : Int} (h : H sh = some (.tup [.int t, .int u])) (h0 : 0 ≤ n) (h8 : n ≤ 800) (h1 : u ≤ 1000000) (h2 : -1000000 ≤ u) (q : Q (.str (rowS (bitsE u st (List.replicate n.toNat t)))) H) : spLSt [.ref sh, .int st, .int n] H Q E := ⟨t, u, h, h0, h8, h1, h2, q⟩
def spLBits : Sp := fun vs H Q _ => match vs with
  | [.ref b, .int n] => ∃ c T, Box H b c T ∧ Pl H ∧ T + 500 < 1000000000 ∧ 0 ≤ n ∧ n ≤ 400 ∧ ∀ (bs : List Int) H', (bs.length : Int) = n → (∀ x ∈ bs, x = 0 ∨ x = 1) → Box H' b c (T + 500) → Chg [b, c] H H' → Pl H' → Q (.str (rowS bs)) H'
  | _ => False
theorem lbits_ok {H : Hp} {Q : VK} {E : XK} {b c : Addr} {T n : Int} (hb : Box H b c T) (hp : Pl H) (hT : T + 500 < 1000000000) (h0 : 0 ≤ n) (h4 : n ≤ 400) (k : ∀ (bs : List Int) H', (bs.length : Int) = n → (∀ x ∈ bs, x = 0 ∨ x = 1) → Box H' b c (T + 500) → Chg [b, c] H H' → Pl H' → Q (.str (rowS bs)) H') : spLBits [.ref b, .int n] H Q E := ⟨c, T, hb, hp, hT, h0, h4, k⟩
def spShare59 : Sp := fun vs H Q _ => match vs with
  | [.ref b, .int most] => ∃ c T, Box H b c T ∧ Pl H ∧ T + 4 < 1000000000 ∧ 9 ≤ most ∧ most ≤ 1000 ∧
      ∀ r t u H', H r = none → H' r = some (.tup [.int t, .int u]) → 0 ≤ t → t ≤ u → 1 ≤ u → u ≤ most → Box H' b c (T + 4) → Chg [b, c, r] H H' → Pl H' → Q (.ref r) H'
  | _ => False
theorem share59_ok {H : Hp} {Q : VK} {E : XK} {b c : Addr} {T most : Int} (hb : Box H b c T) (hp : Pl H) (hT : T + 4 < 1000000000) (h1 : 9 ≤ most) (h2 : most ≤ 1000)
    (k : ∀ r t u H', H r = none → H' r = some (.tup [.int t, .int u]) → 0 ≤ t → t ≤ u → 1 ≤ u → u ≤ most → Box H' b c (T + 4) → Chg [b, c, r] H H' → Pl H' → Q (.ref r) H') : spShare59 [.ref b, .int most] H Q E := ⟨c, T, hb, hp, hT, h1, h2, k⟩
end M

set_option maxHeartbeats 4000000
namespace M
open PySem PySem.Spec PyProof.Rows L2
def rngL (lo : Int) (n : Nat) : List Int := (List.range n).map fun i : Nat => lo + (i : Int)
section
variable {X : Cx} {a b : Expr} {ta : TA} {p p2 pos pos2 : Pos}
def tLR2 (ta : TA) : TE := fun σ H Q => ta σ H fun vs H1 => ∃ i j : Int, vs = [.int i, .int j] ∧ (-(2 ^ 62) ≤ i ∧ i < 2 ^ 62 ∧ -(2 ^ 62) ≤ j ∧ j < 2 ^ 62) ∧ (j - i).toNat ≤ 2 ^ 20 ∧ ∀ q, H1 q = none → Q (.ref q) (upd H1 q (.lst ((rngL i (j - i).toNat).map V.int)))
def tLR1 (ta : TA) : TE := fun σ H Q => ta σ H fun vs H1 => ∃ j : Int, vs = [.int j] ∧ -(2 ^ 62) ≤ j ∧ j < 2 ^ 62 ∧ j.toNat ≤ 2 ^ 20 ∧ ∀ q, H1 q = none → Q (.ref q) (upd H1 q (.lst ((rngL 0 j.toNat).map V.int)))
end
section
variable {X : Cx} {pos : Pos}
def tPar3 (i j k : Nat) (ta : TA) : TS := fun D σ H => ta σ H fun vs H1 => ∃ v w z, vs = [v, w, z] ∧ D.nx (((σ.set i (some v)).set j (some w)).set k (some z)) H1
theorem ex_three {a b c : V} {R : V → V → V → Prop} : (∃ v w z, [a, b, c] = [v, w, z] ∧ R v w z) = R a b c := propext ⟨fun ⟨_, _, _, e, h⟩ => by cases e; exact h, fun h => ⟨_, _, _, rfl, h⟩⟩
end
end M

set_option maxHeartbeats 4000000
namespace M
open PySem L2
theorem runL_get : ∀ (xs : List Int) (o : Int) (k : Nat), k ≤ xs.length → (runL o xs)[k]? = some (o + (xs.take k).sum)
  | [], o, k, h => by
    have : k = 0 := by simpa using h
    subst this; simp [runL]
  | x :: xs, o, 0, h => by simp [runL]
  | x :: xs, o, k + 1, h => by
    rw [runL, List.getElem?_cons_succ, runL_get xs _ k (by simpa using h), List.take_succ_cons, List.sum_cons]
    congr 1; omega
section
variable {g : TG} {tt : TT} {te : TE} {vs : List Nat} {σ : L2.St} {Q : VK} {H : Hp}
def lcEs (g : TG) (tt : TT) (te : TE) (vs : List Nat) (σ : L2.St) (Q : VK) (v : V) (H : Hp) : Prop := ∃ x, [v] = [V.str x] ∧ itC (Ites x) g tt te vs σ Q H
theorem e_lcEs {ta : TE} : tLc (iEnumS (tCons ta tNil)) g tt te vs σ H Q = ta σ H fun v H1 => lcEs g tt te vs σ Q v H1 := rfl
end
end M

set_option maxHeartbeats 4000000
namespace L2
open PySem PySem.Spec PyProof.Rows
section
variable {X : Cx}
def tSc (wi : TI) (g : TG) (tt : TT) (te : TE) (vs : List Nat) : TE := fun σ H Q => wi σ H fun J H1 => ∀ D, H1 D = none → ∃ W : Nat → Nat → Hp → Prop, (∃ m, W 0 m (upd H1 D (.set (fun _ => false) 0))) ∧ ∀ i m H, W i m H →
  (J.stop i H ∧ Q (.ref D) H) ∨ (J.go i H ∧ ∃ Nx : Hp → Prop, (∀ H', Nx H' → ∃ m', m' < m ∧ W (i + 1) m' H') ∧ ∀ x H', J.yld i H x H' → g x (wipe σ vs) H' fun σ2 H2 => wipe σ2 vs = wipe σ vs ∧ tt σ2 H2 fun b H3 =>
    if b = true then te σ2 H3 fun y H4 => ∃ S n k, y = .int k ∧ H4 D = some (.set S n) ∧ n + 1 < 4096 ∧ Nx (upd H4 D (.set (fun j => S j || decide (j = k)) (if S k then n else n + 1))) else Nx H3)
end
end L2

set_option maxHeartbeats 4000000
namespace M
open PySem PySem.Spec L2 PyProof.Rows
structure Sw (n w : Nat) (d : PyData) : Prop where
  lay : d.canLay0 = true
  dep : d.depth ≤ n
  sho : d.showable = true
  len : d.shown.length ≤ w
theorem Sw.mono {n m w v : Nat} {d : PyData} (h : Sw n w d) (h1 : n ≤ m) (h2 : w ≤ v) : Sw m v d := ⟨h.lay, Nat.le_trans h.dep h1, h.sho, Nat.le_trans h.len h2⟩
theorem Sw.int {n : Nat} {i : Int} (h : i.natAbs < 10 ^ 12) : Sw n 13 (.int i) := by
  refine ⟨by simp [PyData.canLay0], by simp [PyData.depth], ?_, PyData.shown_int_le h⟩
  simp only [PyData.showable]
  refine decide_eq_true (Nat.lt_of_le_of_lt (log2_mono (Nat.le_of_lt h)) (by decide))
theorem Sw.bool {n : Nat} {b : Bool} : Sw n 5 (.bool b) := by
  refine ⟨by simp [PyData.canLay0], by simp [PyData.depth], by simp [PyData.showable], ?_⟩
  simp only [PyData.shown]
  cases b <;> decide
theorem Sw.none {n : Nat} : Sw n 4 .none := by
  refine ⟨by simp [PyData.canLay0], by simp [PyData.depth], by simp [PyData.showable], ?_⟩
  simp only [PyData.shown]
  decide
theorem Sw.str {n : Nat} {x : Str} (h : ∀ c ∈ x.cps.toList, c < 1114112) : Sw n (10 * x.length + 2) (.str x) := by
  refine ⟨?_, by simp [PyData.depth], by simp [PyData.showable], ?_⟩
  · simp only [PyData.canLay0, PyData.strOk]
    rw [← Array.all_toList, List.all_eq_true]
    exact fun c hc => decide_eq_true (h c hc)
  · simp only [PyData.shown]
    exact StrLaws.reprText_len x fun c hc => Nat.lt_of_lt_of_le (h c hc) (by decide)
theorem sw_all {n w : Nat} : ∀ {ds : List PyData}, (∀ d ∈ ds, Sw n w d) → PyData.canLayAll0 ds = true ∧ PyData.depthAll ds ≤ n ∧ PyData.showableAll ds = true ∧ ((PyData.shownAll ds).map (·.length)).sum ≤ w * ds.length ∧ (PyData.shownAll ds).length = ds.length
  | [], _ => by simp [PyData.canLayAll0, PyData.depthAll, PyData.showableAll, PyData.shownAll]
  | d :: ds, h => by
    obtain ⟨a1, a2, a3, a4, a5⟩ := sw_all (ds := ds) fun e he => h e (by simp [he])
    obtain ⟨b1, b2, b3, b4⟩ := h d (by simp)
    refine ⟨by simp only [PyData.canLayAll0, a1, b1, Bool.and_self], by simp only [PyData.depthAll]; omega, by simp only [PyData.showableAll, a3, b3, Bool.and_self], ?_, by simp only [PyData.shownAll, List.length_cons, a5]⟩
    simp only [PyData.shownAll, List.map_cons, List.sum_cons, List.length_cons, Nat.mul_add, Nat.mul_one]
    omega
theorem Sw.list {n w : Nat} {ds : List PyData} (h : ∀ d ∈ ds, Sw n w d) : Sw (n + 1) ((w + 2) * ds.length + 3) (.list ds) := by
  obtain ⟨a1, a2, a3, a4, a5⟩ := sw_all h
  refine ⟨by simp only [PyData.canLay0, a1], by simp only [PyData.depth]; omega, by simp only [PyData.showable, a3], ?_⟩
  simp only [PyData.shown]
  have := listText_len_le (PyData.shownAll ds)
  rw [a5] at this
  rw [Nat.add_mul]; omega
theorem Sw.tuple {n w : Nat} {ds : List PyData} (h : ∀ d ∈ ds, Sw n w d) : Sw (n + 1) ((w + 2) * ds.length + 3) (.tuple ds) := by
  obtain ⟨a1, a2, a3, a4, a5⟩ := sw_all h
  refine ⟨by simp only [PyData.canLay0, a1], by simp only [PyData.depth]; omega, by simp only [PyData.showable, a3], ?_⟩
  simp only [PyData.shown]
  have := tupleText_len_le (PyData.shownAll ds)
  rw [a5] at this
  rw [Nat.add_mul]; omega
theorem Sw.ints {n : Nat} {ns : List Int} (h : ∀ i ∈ ns, i.natAbs < 10 ^ 12) : ∀ d ∈ ns.map PyData.int, Sw n 13 d := fun d hd => by
  obtain ⟨i, hi, rfl⟩ := List.mem_map.mp hd
  exact .int (h i hi)
def strY (K : PySem.W.Frag) : List V → Hp → VK → Prop := fun xs H Q => match xs with
  | [.int i] => i.natAbs.log2 < 1920 ∧ Q (.str (toString i)) H
  | [.ref p] => ∃ d, Dp K H (.ref p) d ∧ Sw 40 16000000 d ∧ Q (.str d.shown) H
  | _ => False
theorem e_strY_i {K : PySem.W.Frag} {i : Int} {H : Hp} {Q : VK} : strY K [.int i] H Q = (i.natAbs.log2 < 1920 ∧ Q (.str (toString i)) H) := rfl
theorem at_2 {x y z : V} {l : List V} : atI (x :: y :: z :: l) 2 = some z := at_in (by omega) rfl
theorem at_3 {x y z u : V} {l : List V} : atI (x :: y :: z :: u :: l) 3 = some u := at_in (by omega) rfl
section
variable {X : Cx}
def listY : List V → Hp → VK → Prop := fun xs H Q => match xs with
  | [.ref p] => listO (H p) fun ys => ∀ l, H l = none → Q (.ref l) (upd H l (.lst ys))
  | [.str z] => z.length ≤ sizeLine ∧ ∀ l, H l = none → Q (.ref l) (upd H l (.lst (chs z)))
  | _ => False
theorem vals_signs {z : Str} {acc : Array Value} (h : ItemsOf (SignAt z) acc z.cps.size) : Vals (chs z) acc.toList := by
  obtain ⟨h1, h2⟩ := h
  have key : ∀ (l : List Value) (cs : List Nat), cs.length = l.length → (∀ (j : Nat) (v : Value) (c : Nat), l[j]? = some v → cs[j]? = some c → ∃ u, v = Value.str ⟨#[c]⟩ u) → Vals (cs.map fun c => V.str ⟨#[c]⟩) l := by
    intro l
    induction l with
    | nil => intro cs hl _; have : cs = [] := by simpa using hl
             subst this; exact .nil
    | cons x l ih =>
      intro cs hl hh
      cases cs with
      | nil => simp at hl
      | cons c cs =>
        obtain ⟨u, hu⟩ := hh 0 x c rfl rfl
        exact .cons ⟨u, hu⟩ (ih cs (by simpa using hl) fun j v c' hj hc => hh (j + 1) v c' (by simpa using hj) (by simpa using hc))
  refine key acc.toList z.cps.toList (by rw [Array.length_toList, Array.length_toList, h1]) fun j v c hj hc => ?_
  obtain ⟨c', u, e1, e2⟩ := h2 j v (by simpa using hj)
  have : c' = c := by
    have : z.cps[j]? = some c := by simpa using hc
    rw [e1] at this; exact Option.some.inj this
  subst this
  exact ⟨u, e2⟩
theorem call_listY (hc : X.calm = true) : CallR X (.type "list") listY := by
  intro pins s σ H xs us Q I r h
  unfold listY at h
  split at h
  · exact call_listX pins s σ H _ us Q I r h
  · rename_i z
    obtain ⟨hz, q⟩ := h
    cases r with
    | cons r1 r2 =>
      cases r2
      obtain ⟨t, rfl⟩ := r1
      refine call_list_str (I.ok.hd hc) z t (fun h' tk acc c' hk hS hacc => ?_) hz
      have hv := vals_signs hacc
      refine ⟨.ref _, _, I.laid (t' := tk) (o := .lst (chs z)) hk (Nat.le_refl _) ⟨?_, acc.toList, c', hv, by simpa using hS⟩, rfl, q _ (I.hok.fresh (Nat.le_refl _))⟩
      unfold chs
      rw [List.length_map, Array.length_toList]
      exact hz
  · exact h.elim
theorem e_listY_r {p : Addr} {H : Hp} {Q : VK} : listY [.ref p] H Q = listO (H p) fun ys => ∀ l, H l = none → Q (.ref l) (upd H l (.lst ys)) := rfl
theorem e_listY_s {z : Str} {H : Hp} {Q : VK} : listY [.str z] H Q = (z.length ≤ sizeLine ∧ ∀ l, H l = none → Q (.ref l) (upd H l (.lst (chs z)))) := rfl
def popO : Option HO → (V → HO → Prop) → Prop
  | some (.lst xs), R => ∃ y, xs[xs.length - 1]? = some y ∧ R y (.lst xs.dropLast)
  | _, _ => False
def popAtO : Option HO → Int → (V → HO → Prop) → Prop
  | some (.lst xs), i, R => -(2 ^ 63) ≤ i ∧ i < 2 ^ 63 ∧ ∃ k y, seqIndex? i xs.length = some k ∧ xs[k]? = some y ∧ R y (.lst (xs.eraseIdx k))
  | _, _, _ => False
def popX : V → List V → Hp → VK → Prop := fun x vs H Q => match x, vs with
  | .ref p, [] => popO (H p) fun y o => Q y (upd H p o)
  | .ref p, [.int i] => popAtO (H p) i fun y o => Q y (upd H p o)
  | _, _ => False
theorem MtR.or {id : String} {r r' : V → List V → Hp → VK → Prop} (h : MtR X id r) (h' : MtR X id r') : MtR X id (fun x xs H Q => r x xs H Q ∨ r' x xs H Q) := fun pins s σ H x xs v us Q I rx rs q => by
  rcases q with q | q
  · exact h pins s σ H x xs v us Q I rx rs q
  · exact h' pins s σ H x xs v us Q I rx rs q
theorem e_pop {p : Addr} {H : Hp} {Q : VK} : popX (.ref p) [] H Q = popO (H p) fun y o => Q y (upd H p o) := rfl
theorem e_popO {xs : List V} {R : V → HO → Prop} : popO (some (.lst xs)) R = ∃ y, xs[xs.length - 1]? = some y ∧ R y (.lst xs.dropLast) := rfl
theorem e_popAt {p : Addr} {i : Int} {H : Hp} {Q : VK} : popX (.ref p) [.int i] H Q = popAtO (H p) i fun y o => Q y (upd H p o) := rfl
def extX : V → List V → Hp → VK → Prop := fun x vs H Q => match x, vs with
  | .ref l, [.ref b] => catO (H l) (H b) fun o => Q .non (upd H l o)
  | _, _ => False
theorem e_ext {p q : Addr} {H : Hp} {Q : VK} : extX (.ref p) [.ref q] H Q = catO (H p) (H q) fun o => Q .non (upd H p o) := rfl
def clrO : Option HO → Prop → Prop
  | some (.lst _), R => R
  | _, _ => False
def clrX : V → List V → Hp → VK → Prop := fun x vs H Q => match x, vs with
  | .ref l, [] => clrO (H l) (Q .non (upd H l (.lst [])))
  | _, _ => False
theorem e_clr {p : Addr} {H : Hp} {Q : VK} : clrX (.ref p) [] H Q = clrO (H p) (Q .non (upd H p (.lst []))) := rfl
theorem e_clrO {xs : List V} {R : Prop} : clrO (some (.lst xs)) R = R := rfl
def rIsB : R2 := fun x y H Q => match x, y with
  | .bl a, .bl b => Q (.bl (decide (a = b))) H
  | _, _ => False
def rIsNB : R2 := fun x y H Q => match x, y with
  | .bl a, .bl b => Q (.bl (!decide (a = b))) H
  | _, _ => False
theorem e_isB {a b : Bool} {H : Hp} {Q : VK} : rIsB (.bl a) (.bl b) H Q = Q (.bl (decide (a = b))) H := rfl
theorem e_isNB {a b : Bool} {H : Hp} {Q : VK} : rIsNB (.bl a) (.bl b) H Q = Q (.bl (!decide (a = b))) H := rfl
def lenSO : Option HO → (Nat → Prop) → Prop
  | some (.set _ n), R => R n
  | _, _ => False
def lenS : List V → Hp → VK → Prop := fun xs H Q => match xs with
  | [.ref p] => lenSO (H p) fun n => Q (.int n) H
  | _ => False
theorem e_lenS {p : Addr} {H : Hp} {Q : VK} : lenS [.ref p] H Q = lenSO (H p) fun n => Q (.int n) H := rfl
theorem e_lenSO {S : Int → Bool} {n : Nat} {R : Nat → Prop} : lenSO (some (.set S n)) R = R n := rfl
end
section
variable {K : PySem.W.Frag} {g : TG} {tt : TT} {te : TE} {vs : List Nat} {σ : L2.St} {H : Hp} {Q : VK}
def itS (J : It) (g : TG) (tt : TT) (te : TE) (vs : List Nat) (σ : L2.St) (Q : VK) (H1 : Hp) : Prop := ∀ D, H1 D = none → ∃ W : Nat → Nat → Hp → Prop, (∃ m, W 0 m (upd H1 D (.set (fun _ => false) 0))) ∧ ∀ i m H, W i m H →
  (J.stop i H ∧ Q (.ref D) H) ∨ (J.go i H ∧ ∃ Nx : Hp → Prop, (∀ H', Nx H' → ∃ m', m' < m ∧ W (i + 1) m' H') ∧ ∀ x H', J.yld i H x H' → g x (wipe σ vs) H' fun σ2 H2 => wipe σ2 vs = wipe σ vs ∧ tt σ2 H2 fun b H3 =>
    if b = true then te σ2 H3 fun y H4 => ∃ S n k, y = .int k ∧ H4 D = some (.set S n) ∧ n + 1 < 4096 ∧ Nx (upd H4 D (.set (fun j => S j || decide (j = k)) (if S k then n else n + 1))) else Nx H3)
def scB (K : PySem.W.Frag) (g : TG) (tt : TT) (te : TE) (vs : List Nat) (σ : L2.St) (Q : VK) (x : V) (H1 : Hp) : Prop := match x with
  | .str z => itS (Its z) g tt te vs σ Q H1
  | .ref a => iO (H1 a) (itS (Itl K a) g tt te vs σ Q H1) (itS (Itt K a) g tt te vs σ Q H1)
  | _ => False
theorem e_sc {ta : TE} : tSc (iX K ta) g tt te vs σ H Q = ta σ H fun x H1 => scB K g tt te vs σ Q x H1 := rfl
end
end M

set_option maxHeartbeats 4000000
namespace M
open PySem PySem.Spec L2 PyProof.Rows
section
variable {X : Cx}
def cntS : V → List V → Hp → VK → Prop := fun x xs H Q => match x, xs with
  | .str a, [.str b] => Q (.int (Txt.count a b)) H
  | _, _ => False
theorem e_cntS {a b : Str} {H : Hp} {Q : VK} : cntS (.str a) [.str b] H Q = Q (.int (Txt.count a b)) H := rfl
end
theorem sum01 {bs : List Int} (h : ∀ b ∈ bs, b = 0 ∨ b = 1) : 0 ≤ bs.sum ∧ bs.sum ≤ bs.length := by
  induction bs with
  | nil => simp
  | cons b bs ih =>
    have := ih fun c hc => h c (by simp [hc])
    have hb := h b (by simp)
    rw [List.sum_cons, List.length_cons]; omega
structure LenSet (S : Int → Bool) (n : Nat) (ls : List Int) : Prop where
  mem : ∀ k, S k = true ↔ k ∈ ls
  le : n ≤ ls.length
  nil : n = 0 ↔ ls = []
  one : n ≤ 1 → ∀ a ∈ ls, ∀ b ∈ ls, a = b
  two : 2 ≤ n → ∃ a ∈ ls, ∃ b ∈ ls, a ≠ b
theorem LenSet.new : LenSet (fun _ => false) 0 [] := ⟨by simp, by simp, by simp, by simp, by omega⟩
theorem mulok0 {z : Str} {n : Int} (h0 : 0 ≤ n) (h2 : n ≤ 1000000) (hz : z.length * n.toNat ≤ 16000000) (hl : z.length ≤ 16000000) : MulOk z n := by
  by_cases h : 1 ≤ n
  · exact mulok_of h h2 hz hl
  · refine ⟨?_, fun h' => absurd (by omega) h', fun h' => absurd (by omega) h'⟩
    rw [decide_eq_false (by omega), decide_eq_false (by omega)]; rfl
theorem rowS_mul0 {bs : List Int} {k : Int} (h : ∀ x ∈ bs, x = 0 ∨ x = 1) (hk : 0 ≤ k) : Txt.mul (rowS bs) k = rowS (List.replicate k.toNat bs).flatten := by
  by_cases h1 : 1 ≤ k
  · exact rowS_mul h h1
  · have : k = 0 := by omega
    subst this
    refine row_eq (flat01 h) ?_
    unfold Txt.mul
    rw [if_pos (by omega)]
    rfl
theorem flat_one (n : Nat) (b : Int) : (List.replicate n [b]).flatten = List.replicate n b := flat_rep n b
theorem rep01 {n : Nat} {b : Int} (h : b = 0 ∨ b = 1) : ∀ x ∈ List.replicate n b, x = 0 ∨ x = 1 := fun x hx => by rw [List.eq_of_mem_replicate hx]; exact h
def spSomeB : Sp := fun vs H Q _ => match vs with
  | [.ref b, .int most] => ∃ c T, Box H b c T ∧ Pl H ∧ T + 600 < 1000000000 ∧ 24 ≤ most ∧ most ≤ 400 ∧ ∀ (bs : List Int) H', (bs.length : Int) ≤ most → (∀ x ∈ bs, x = 0 ∨ x = 1) → Box H' b c (T + 600) → Chg [b, c] H H' → Pl H' → Q (.str (rowS bs)) H'
  | _ => False
theorem someB_ok {H : Hp} {Q : VK} {E : XK} {b c : Addr} {T most : Int} (hb : Box H b c T) (hp : Pl H) (hT : T + 600 < 1000000000) (h0 : 24 ≤ most) (h4 : most ≤ 400) (k : ∀ (bs : List Int) H', (bs.length : Int) ≤ most → (∀ x ∈ bs, x = 0 ∨ x = 1) → Box H' b c (T + 600) → Chg [b, c] H H' → Pl H' → Q (.str (rowS bs)) H') : spSomeB [.ref b, .int most] H Q E := ⟨c, T, hb, hp, hT, h0, h4, k⟩
theorem zo_at {d : Int} (h0 : 0 ≤ d) (h1 : d < 2) : ∃ c, atI (Str.ofString "01").cps.toList d = some c ∧ (⟨#[c]⟩ : Str) = rowS [d] := by
  have hd : d = 0 ∨ d = 1 := by omega
  rcases hd with rfl | rfl
  · exact ⟨48, by decide, row_eq (by simp) (by decide)⟩
  · exact ⟨49, by decide, row_eq (by simp) (by decide)⟩
theorem row_sign {bs : List Int} (h : ∀ b ∈ bs, b = 0 ∨ b = 1) {i c : Nat} (hc : (rowS bs).cps[i]? = some c) : ∃ b, bs[i]? = some b ∧ (b = 0 ∨ b = 1) ∧ (⟨#[c]⟩ : Str) = rowS [b] := by
  obtain ⟨b, hb, e⟩ := rowS_get _ _ rfl h i c hc
  have hb1 := h b (List.mem_of_getElem? hb)
  refine ⟨b, hb, hb1, ?_⟩
  rw [e]
  rcases hb1 with rfl | rfl
  · exact row_eq (by simp) (by decide)
  · exact row_eq (by simp) (by decide)
theorem row1_str {b : Int} (h : b = 0 ∨ b = 1) : rowS [b] = Str.ofString (toString b) := by
  rcases h with rfl | rfl
  · exact (row_eq (by simp) (by decide)).symm
  · exact (row_eq (by simp) (by decide)).symm
end M
namespace M
open PySem PySem.Spec L2 PyProof.Rows
def tAsg2 (te : TE) (g1 g2 : TG) : TS := fun D σ H => te σ H fun x H1 => g1 x σ H1 fun σ2 H2 => g2 x σ2 H2 D.nx
end M

set_option maxHeartbeats 4000000
namespace M
open PySem PySem.Spec L2 PyProof.Rows
def both (as bs : List Int) : List Int := List.zipWith (· + ·) as bs
end M
namespace M
open PySem PySem.Spec L2 PyProof.Rows
end M

set_option maxHeartbeats 4000000
namespace M
open PySem PySem.Spec L2 PyProof.Rows
def rowsV (bss : List (List Int)) : List V := bss.map fun bs => V.str (rowS bs)
structure Bits (bss : List (List Int)) : Prop where
  b01 : ∀ bs ∈ bss, ∀ b ∈ bs, b = 0 ∨ b = 1
  len : ∀ bs ∈ bss, bs.length ≤ 1000
  many : bss.length ≤ 1000
def OneL (bss : List (List Int)) : Prop := ∀ a ∈ bss, ∀ b ∈ bss, a.length = b.length
def headLen (bss : List (List Int)) : Nat := (bss.head?.getD []).length
theorem Dp.rows {K : PySem.W.Frag} {H : Hp} {a : Addr} {bss : List (List Int)} (h : H a = some (.lst (rowsV bss))) : Dp K H (.ref a) (.list (bss.map fun bs => .str (rowS bs))) := .lst (SqL.of h) (by
  clear h
  induction bss with
  | nil => exact .nil
  | cons x l ih => exact .cons (.str _) ih)
theorem row_ok {bs : List Int} (h : ∀ b ∈ bs, b = 0 ∨ b = 1) : PyData.strOk (rowS bs) = true := by
  unfold PyData.strOk
  rw [← Array.all_toList, List.all_eq_true, row_list _ _ rfl h]
  intro c hc
  obtain ⟨b, hb, rfl⟩ := List.mem_map.mp hc
  unfold sg1
  split <;> decide
theorem Sh.rows {bss : List (List Int)} (h : ∀ bs ∈ bss, ∀ b ∈ bs, b = 0 ∨ b = 1) : Sh 1 (.list (bss.map fun bs => .str (rowS bs))) := Sh.list fun d hd => by
  obtain ⟨x, hx, rfl⟩ := List.mem_map.mp hd
  exact Sh.str (row_ok (h x hx))
theorem s0 : Str.ofString "0" = rowS [0] := (row1_str (.inl rfl)).symm
theorem s1 : Str.ofString "1" = rowS [1] := (row1_str (.inr rfl)).symm
end M

set_option maxHeartbeats 4000000
namespace M
open PySem PySem.Spec L2 PyProof.Rows
theorem pick2 {x y : Int} {k : Int} (h : k = 0 ∨ k = 1) : ∃ z, (z = x ∨ z = y) ∧ atI [V.int x, V.int y] k = some (.int z) := by
  rcases h with rfl | rfl
  · exact ⟨x, .inl rfl, rfl⟩
  · exact ⟨y, .inr rfl, rfl⟩
theorem Box.ne_new {H : Hp} {b c p : Addr} {T : Int} (x : Box H b c T) (hp : H p = none) : p ≠ b ∧ p ≠ c := ⟨fun e => x.hb (e ▸ hp), fun e => x.hc (e ▸ hp)⟩
end M

set_option maxHeartbeats 4000000
namespace M
open PySem PySem.Spec L2 PyProof.Rows
end M

set_option maxHeartbeats 4000000
namespace M
open PySem PySem.Spec L2 PyProof.Rows
end M

set_option maxHeartbeats 4000000
namespace M
open PySem PySem.Spec L2 PyProof.Rows
end M

set_option maxHeartbeats 4000000
namespace M
open PySem PySem.Spec L2 PyProof.Rows
section
variable {X : Cx}
def catT : Option HO → Option HO → (HO → Prop) → Prop
  | some (.lst xs), some (.lst ys), R => xs.length + ys.length ≤ sizeLine ∧ R (.lst (xs ++ ys))
  | some (.tup xs), some (.tup ys), R => xs ≠ [] ∧ ys ≠ [] ∧ xs.length + ys.length ≤ sizeLine ∧ R (.tup (xs ++ ys))
  | _, _, _ => False
def rAddT : R2 := fun x y H Q => match x, y with
  | .int i, .int j => Q (.int (i + j)) H
  | .str a, .str b => a.length + b.length ≤ sizeLine ∧ Q (.str (a ++ b)) H
  | .ref a, .ref b => catT (H a) (H b) fun o => ∀ p, H p = none → Q (.ref p) (upd H p o)
  | _, _ => False
variable {i j : Int} {x y : Str} {a b : Addr} {H : Hp} {Q : VK} {xs ys : List V} {S : HO → Prop}
theorem e_addT_ii : rAddT (.int i) (.int j) H Q = Q (.int (i + j)) H := rfl
theorem e_addT_ss : rAddT (.str x) (.str y) H Q = (x.length + y.length ≤ sizeLine ∧ Q (.str (x ++ y)) H) := rfl
theorem e_addT_rr : rAddT (.ref a) (.ref b) H Q = catT (H a) (H b) fun o => ∀ p, H p = none → Q (.ref p) (upd H p o) := rfl
theorem e_catT_l : catT (some (.lst xs)) (some (.lst ys)) S = (xs.length + ys.length ≤ sizeLine ∧ S (.lst (xs ++ ys))) := rfl
theorem e_catT_t : catT (some (.tup xs)) (some (.tup ys)) S = (xs ≠ [] ∧ ys ≠ [] ∧ xs.length + ys.length ≤ sizeLine ∧ S (.tup (xs ++ ys))) := rfl
end
section
variable {g : TG} {tb : TS} {D : Ends} {σ : L2.St} {H : Hp}
def forR3 (g : TG) (tb : TS) (D : Ends) (σ : L2.St) (x y z : V) (H : Hp) : Prop := tFor (iRng3 (tCons (tC x) (tCons (tC y) (tCons (tC z) tNil)))) g tb D σ H
theorem e_forR3 {ta tc td : TE} : tFor (iRng3 (tCons ta (tCons tc (tCons td tNil)))) g tb D σ H = ta σ H fun x H1 => tc σ H1 fun y H2 => td σ H2 fun z H3 => forR3 g tb D σ x y z H3 := rfl
end
end M

set_option maxHeartbeats 4000000
namespace M
open PySem PySem.Spec L2 PyProof.Rows
theorem steady_sum {u st t : Int} (hs : 0 ≤ st ∧ st < u) (ht : 0 ≤ t ∧ t ≤ u) {n k : Nat} (h : k ≤ n) : ((bitsE u st (List.replicate n t)).take k).sum = (st + k * t).fdiv u := by
  rw [bitsE_take, List.take_replicate, Nat.min_eq_left h]
  have h1 := made_sum u (List.replicate k t) st
  have h2 := lastE_in (ts := List.replicate k t) hs (rep_in ht)
  rw [sum_rep] at h1
  exact (fdiv_of h1 h2.1 h2.2).symm
section
variable {K : PySem.W.Frag} {g : TG} {tt : TT} {te : TE} {vs : List Nat} {σ : L2.St} {H : Hp} {Q : VK}
def lcR2 (g : TG) (tt : TT) (te : TE) (vs : List Nat) (σ : L2.St) (Q : VK) (x y : V) (H : Hp) : Prop := tLc (iRng2 (tCons (tC x) (tCons (tC y) tNil))) g tt te vs σ H Q
theorem e_lcR2 {ta tc : TE} : tLc (iRng2 (tCons ta (tCons tc tNil))) g tt te vs σ H Q = ta σ H fun x H1 => tc σ H1 fun y H2 => lcR2 g tt te vs σ Q x y H2 := rfl
end
end M

set_option maxHeartbeats 4000000
namespace M
open PySem PySem.Spec L2 PyProof.Rows
structure Wt where
  w : Int
  t : Int
  u : Int
  p : Int
  q : Int
  d : Int
def Wt.ok (z : Wt) (D : Int) : Prop := 0 ≤ z.w ∧ 1 ≤ z.u ∧ 1 ≤ z.q ∧ (z.u * z.d - D * z.t) * z.q ≤ z.p * z.u
end M

set_option maxHeartbeats 4000000
namespace M
open PySem PySem.Spec L2 PyProof.Rows
end M

set_option maxHeartbeats 4000000
namespace M
open PySem PySem.Spec L2 PyProof.Rows
theorem Parts.rep {H : Hp} {k : Nat} {r : Addr} {p : Int × Int} (h : H r = some (.tup [.int p.1, .int p.2])) : Parts H (List.replicate k r) (List.replicate k p) := ⟨by rw [List.length_replicate, List.length_replicate], fun i r' p' e1 e2 => by
  rw [List.eq_of_mem_replicate (List.mem_of_getElem? e1), List.eq_of_mem_replicate (List.mem_of_getElem? e2)]; exact h⟩
end M

set_option maxHeartbeats 4000000
namespace M
open PySem PySem.Spec L2 PyProof.Rows
section
variable {X : Cx}
def sortS : List V → Hp → VK → Prop := fun xs H Q => match xs with
  | [.ref a] => ∃ xs : List Str, H a = some (.lst (xs.map V.str)) ∧ xs.length < 64 ∧ ∀ (ys : List Str) (p : Addr), ys.Perm xs → H p = none → Q (.ref p) (upd H p (.lst (ys.map V.str)))
  | _ => False
theorem e_sortS {a : Addr} {H : Hp} {Q : VK} : sortS [.ref a] H Q = ∃ xs : List Str, H a = some (.lst (xs.map V.str)) ∧ xs.length < 64 ∧ ∀ (ys : List Str) (p : Addr), ys.Perm xs → H p = none → Q (.ref p) (upd H p (.lst (ys.map V.str))) := rfl
end
theorem max_of : ∀ {xs : List Int}, xs ≠ [] → ∃ M, M ∈ xs ∧ ∀ y ∈ xs, y ≤ M
  | [], h => absurd rfl h
  | [x], _ => ⟨x, by simp, by simp⟩
  | x :: y :: xs, _ => by
    obtain ⟨M, h1, h2⟩ := max_of (xs := y :: xs) (by simp)
    by_cases h : M ≤ x
    · exact ⟨x, by simp, fun z hz => by
        rcases List.mem_cons.mp hz with rfl | hz
        · exact Int.le_refl _
        · exact Int.le_trans (h2 z hz) h⟩
    · exact ⟨M, List.mem_cons_of_mem _ h1, fun z hz => by
        rcases List.mem_cons.mp hz with rfl | hz
        · omega
        · exact h2 z hz⟩
theorem min_of {xs : List Int} (h : xs ≠ []) : ∃ m, m ∈ xs ∧ ∀ y ∈ xs, m ≤ y := by
  obtain ⟨M, h1, h2⟩ := max_of (xs := xs.map fun x => -x) (by simpa using h)
  obtain ⟨x, hx, rfl⟩ := List.mem_map.mp h1
  exact ⟨x, hx, fun y hy => by have := h2 (-y) (List.mem_map.mpr ⟨y, hy, rfl⟩); omega⟩
theorem getD_mem {S : List Int} {k : Nat} (h : k < S.length) : S.getD k 0 ∈ S := by
  rw [List.getD_eq_getElem?_getD, List.getElem?_eq_getElem h]; exact List.getElem_mem h
theorem mem_getD {S : List Int} {x : Int} (h : x ∈ S) : ∃ k, k < S.length ∧ S.getD k 0 = x := by
  obtain ⟨k, hk, e⟩ := List.mem_iff_getElem.mp h
  exact ⟨k, hk, by rw [List.getD_eq_getElem?_getD, List.getElem?_eq_getElem hk]; exact e⟩
end M

set_option maxHeartbeats 4000000
namespace M
open PySem L2
end M

set_option maxHeartbeats 4000000
namespace M
open PySem L2 PyProof.Rows
def tabOf (K : PySem.W.Frag) (x : Str) : Option (Addr × Obj) := match PySem.W.nsIn K mainGlobals x with
  | some (some (.ref a)) => (match List.lookup a K with | some o => some (a, o) | none => none)
  | _ => none
def obE (es : List DictEntry) : Bool := match es with
  | [⟨_, .str k0 _, .str v0 _⟩, ⟨_, .str k1 _, .str v1 _⟩] => k0 == Str.ofString "0" && (v0 == Str.ofString "1" && (k1 == Str.ofString "1" && v1 == Str.ofString "0"))
  | _ => false
def obOk (K : PySem.W.Frag) : Bool := match tabOf K "OTHER_BIT" with
  | some (_, ⟨.type t, none, .dict es _, sl⟩) => t == "dict" && (sl.size == 0 && obE es.toList)
  | _ => false
def obH (K : PySem.W.Frag) : List Int := match tabOf K "OTHER_BIT" with
  | some (_, ⟨_, _, .dict es _, _⟩) => es.toList.map (·.hash)
  | _ => []
def Ob (w : World) (K : PySem.W.Frag) (mg : Str → Option Value) : Prop := ∃ a o es ep t0 t1 t2 t3, mg "OTHER_BIT" = some (.ref a) ∧ List.lookup a K = some o ∧ o.ExactDict ∧ o.data = .dict es ep ∧
  es.toList = [⟨hashStr w (Str.ofString "0"), .str (Str.ofString "0") t0, .str (Str.ofString "1") t1⟩, ⟨hashStr w (Str.ofString "1"), .str (Str.ofString "1") t2, .str (Str.ofString "0") t3⟩]
theorem tabOf_some {K : PySem.W.Frag} {x : Str} {a : Addr} {o : Obj} (h : tabOf K x = some (a, o)) : PySem.W.nsIn K mainGlobals x = some (some (.ref a)) ∧ List.lookup a K = some o := by
  unfold tabOf at h
  split at h
  · rename_i b e
    split at h
    · rename_i o' e'
      cases h
      exact ⟨e, e'⟩
    · cases h
  · cases h
theorem ob_mk {w : World} {K : PySem.W.Frag} {mg : Str → Option Value} {h : Heap} (X : K.In h) (G : h.Ns mainGlobals mg) (h1 : obOk K = true) (h2 : obH K = [hashStr w (Str.ofString "0"), hashStr w (Str.ofString "1")]) : Ob w K mg := by
  unfold obOk at h1
  split at h1
  · rename_i a t es ep sl e
    rw [Bool.and_eq_true, Bool.and_eq_true] at h1
    obtain ⟨ht, hs, he⟩ := h1
    obtain ⟨e1, e2⟩ := tabOf_some e
    unfold obH at h2
    rw [e] at h2
    replace h2 : es.toList.map (·.hash) = [hashStr w (Str.ofString "0"), hashStr w (Str.ofString "1")] := h2
    have ht : t = "dict" := by simpa using ht
    subst ht
    have hs : sl = #[] := by
      have : sl.size = 0 := by simpa using hs
      exact Array.eq_empty_of_size_eq_zero this
    subst hs
    unfold obE at he
    split at he
    · rename_i q0 k0 c0 v0 d0 q1 k1 c1 v1 d1 el
      rw [Bool.and_eq_true, Bool.and_eq_true, Bool.and_eq_true] at he
      obtain ⟨a1, a2, a3, a4⟩ := he
      have a1 := eq_of_beq a1
      have a2 := eq_of_beq a2
      have a3 := eq_of_beq a3
      have a4 := eq_of_beq a4
      subst a1 a2 a3 a4
      rw [el] at h2
      injection h2 with b1 b2
      injection b2 with b2 _
      have b1 : q0 = _ := b1
      have b2 : q1 = _ := b2
      subst b1 b2
      exact ⟨a, _, es, ep, _, _, _, _, PySem.W.mg_of X G e1, e2, ⟨rfl, rfl, rfl⟩, rfl, el⟩
    · cases he
  · cases h1
def tOther (ty : TE) : TE := fun σ H Q => ty σ H fun y H1 => ∃ b : Int, (b = 0 ∨ b = 1) ∧ y = .str (Str.ofString (toString b)) ∧ Q (.str (Str.ofString (toString (1 - b)))) H1
theorem ob_dict {P : Program} {w : World} {K : PySem.W.Frag} {h : Heap} {a : Addr} {o : Obj} {es : Array DictEntry} {ep t0 t1 t2 t3 : Nat} (X : K.In h) (h1 : List.lookup a K = some o) (h2 : o.ExactDict) (h3 : o.data = .dict es ep)
    (h4 : es.toList = [⟨hashStr w (Str.ofString "0"), .str (Str.ofString "0") t0, .str (Str.ofString "1") t1⟩, ⟨hashStr w (Str.ofString "1"), .str (Str.ofString "1") t2, .str (Str.ofString "0") t3⟩]) :
    h.DictOf (mixKind P w) a [(Sum.inr (Str.ofString "0"), .str (Str.ofString "1") t1), (Sum.inr (Str.ofString "1"), .str (Str.ofString "0") t3)] := by
  refine ⟨o, es, ep, X a o h1, h2, h3, ?_, ?_, show [Sum.inr (Str.ofString "0"), Sum.inr (Str.ofString "1")].Nodup from (by decide : ([Sum.inr (Str.ofString "0"), Sum.inr (Str.ofString "1")] : List Key).Nodup)⟩
  · intro e he
    have he : e ∈ es.toList := by simpa using he
    rw [h4] at he
    rcases List.mem_cons.mp he with rfl | he
    · exact ⟨Sum.inr (Str.ofString "0"), rfl, rfl⟩
    · rcases List.mem_cons.mp he with rfl | he
      · exact ⟨Sum.inr (Str.ofString "1"), rfl, rfl⟩
      · cases he
  · rw [h4]
    exact .cons rfl rfl (.cons rfl rfl .nil)
theorem pe_other {X : Cx} {i : Expr} {ty : TE} {p pos : Pos} {w : World} {K : PySem.W.Frag} {mg : Str → Option Value} (hK : X.K = K) (hw : X.w = w) (hmg : X.mg = mg) (D : Ob w K mg) (hg : Gl X "OTHER_BIT") (hi : PE X i ty) (hs : NoSl i) : PE X (.Subscript (.Name "OTHER_BIT" p) i pos) (tOther ty) := by
  subst hK hw hmg
  obtain ⟨a, o, es, ep, t0, t1, t2, t3, hm, h1, h2, h3, h4⟩ := D
  intro pins s σ H Q I h
  have ho : PE X (.Name "OTHER_BIT" p) (tC (.ref a)) := pe_glob hg hm rfl
  refine subD_of PySem.F.slot_dict_getitem.lookup hs (thn (ho pins s σ H (fun x H1 => x = .ref a ∧ H1 = H) I ⟨rfl, rfl⟩) fun u s1 ⟨x, H1, I1, rx, q1⟩ => ?_)
  obtain ⟨rfl, rfl⟩ := q1
  obtain rfl : u = Value.ref a := rx
  refine thn (hi pins s1 σ H1 _ I1 h) fun iv s2 ⟨y, H2, I2, ry, b, hb, ey, q2⟩ => ?_
  subst ey
  have K2 : X.K.In s2.heap := fun b ob e => I2.bk b ob (I2.mod.kin b ob e)
  have dd := ob_dict (P := X.prog) (w := X.w) K2 h1 h2 h3 h4
  refine ⟨dd.typeIs, ?_⟩
  rcases hb with rfl | rfl
  · exact wpAny_getItem_of (k := Sum.inr (Str.ofString "0")) (v := .str (Str.ofString "1") t1) (kV_is ry) dd.mapOf rfl ⟨.str (Str.ofString "1"), H2, I2.tok _, ⟨_, rfl⟩, q2⟩
  · exact wpAny_getItem_of (k := Sum.inr (Str.ofString "1")) (v := .str (Str.ofString "0") t3) (kV_is ry) dd.mapOf rfl ⟨.str (Str.ofString "0"), H2, I2.tok _, ⟨_, rfl⟩, q2⟩
theorem e_other {ty : TE} {σ : L2.St} {H : Hp} {Q : VK} : tOther ty σ H Q = ty σ H fun y H1 => ∃ b : Int, (b = 0 ∨ b = 1) ∧ y = .str (Str.ofString (toString b)) ∧ Q (.str (Str.ofString (toString (1 - b)))) H1 := rfl
end M

set_option maxHeartbeats 4000000
namespace M
open PySem L2 PyProof.Rows
def flipL (bs : List Int) : List Int := bs.map fun b => 1 - b
theorem flip01 {bs : List Int} (h : ∀ b ∈ bs, b = 0 ∨ b = 1) : ∀ b ∈ flipL bs, b = 0 ∨ b = 1 := by
  intro b hb
  obtain ⟨x, hx, rfl⟩ := List.mem_map.mp hb
  have := h x hx
  omega
theorem flip_len (bs : List Int) : (flipL bs).length = bs.length := List.length_map ..
theorem flip_sum : ∀ bs : List Int, (flipL bs).sum = bs.length - bs.sum
  | [] => rfl
  | b :: bs => by
    have := flip_sum bs
    unfold flipL at this ⊢
    rw [List.map_cons, List.sum_cons, this, List.sum_cons, List.length_cons]; omega
end M

set_option maxHeartbeats 4000000
namespace M
open PySem L2 PyProof.Rows
section
variable {K : PySem.W.Frag} {g : TG} {tt : TT} {te : TE} {vs : List Nat} {σ : L2.St} {H : Hp} {Q : VK}
def lcEl (K : PySem.W.Frag) (g : TG) (tt : TT) (te : TE) (vs : List Nat) (σ : L2.St) (Q : VK) (v : V) (H : Hp) : Prop := ∃ a xs, [v] = [V.ref a] ∧ SqL K H a xs ∧ itC (Ite K a) g tt te vs σ Q H
theorem e_lcEl {ta : TE} : tLc (iEnum K (tCons ta tNil)) g tt te vs σ H Q = ta σ H fun v H1 => lcEl K g tt te vs σ Q v H1 := rfl
end
end M

set_option maxHeartbeats 4000000
namespace M
open PySem L2 PyProof.Rows
section
variable {X : Cx}
def insO : Option HO → Int → V → (HO → Prop) → Prop
  | some (.lst xs), i, y, N => 0 ≤ i ∧ i < 1000000000000 ∧ xs.length < 10000000 ∧ N (.lst (xs.take i.toNat ++ [y] ++ xs.drop i.toNat))
  | _, _, _, _ => False
def insX : V → List V → Hp → VK → Prop := fun x vs H Q => match x, vs with
  | .ref l, [.int i, y] => insO (H l) i y fun o => Q .non (upd H l o)
  | _, _ => False
theorem e_ins {l : Addr} {i : Int} {y : V} {H : Hp} {Q : VK} : insX (.ref l) [.int i, y] H Q = insO (H l) i y fun o => Q .non (upd H l o) := rfl
theorem e_insO {xs : List V} {i : Int} {y : V} {N : HO → Prop} : insO (some (.lst xs)) i y N = (0 ≤ i ∧ i < 1000000000000 ∧ xs.length < 10000000 ∧ N (.lst (xs.take i.toNat ++ [y] ++ xs.drop i.toNat))) := rfl
end
def turnL (ps : List Int) (bs : List Int) : List Int := bs.mapIdx fun i b => if (i : Int) ∈ ps then 1 - b else b
theorem turnL_len (ps bs : List Int) : (turnL ps bs).length = bs.length := by unfold turnL; simp
theorem turnL01 {ps bs : List Int} (h : ∀ b ∈ bs, b = 0 ∨ b = 1) : ∀ b ∈ turnL ps bs, b = 0 ∨ b = 1 := by
  intro b hb
  unfold turnL at hb
  obtain ⟨i, hi, rfl⟩ := List.mem_mapIdx.mp hb
  have := h bs[i] (List.getElem_mem hi)
  split <;> omega
end M

set_option maxHeartbeats 4000000
namespace M
open PySem L2 PyProof.Rows
abbrev PF := Nat → Int
def shF (n : Nat) (f : PF) : PF := fun k => if n ≤ k then f (k - n) else 0
def adP (f g : PF) : PF := fun k => f k + g k
def bx : Nat → PF → PF
  | 0, _ => fun _ => 0
  | n + 1, f => adP (bx n f) (shF n f)
def dl : PF := fun k => if k = 0 then 1 else 0
def wF (ls : List Nat) : PF := ls.foldl (fun f n => bx n f) dl
theorem wF_snoc (ls : List Nat) (n : Nat) : wF (ls ++ [n]) = bx n (wF ls) := by unfold wF; rw [List.foldl_append]; rfl
def vlF (L : Nat) (f : PF) : List Int := (List.range L).map f
def Sup (L : Nat) (f : PF) : Prop := ∀ k, L ≤ k → f k = 0
theorem sup_sh {L n : Nat} {f : PF} (h : Sup L f) : Sup (L + n) (shF n f) := fun k hk => by
  unfold shF; split
  · exact h _ (by omega)
  · rfl
theorem sup_bx {L : Nat} {f : PF} (h : Sup L f) : ∀ n : Nat, Sup (L + n - 1) (bx n f)
  | 0 => fun _ _ => rfl
  | n + 1 => fun k hk => by
    show bx n f k + shF n f k = 0
    have h2 := sup_sh (n := n) h k (by omega)
    by_cases hn : n = 0
    · subst hn; rw [h2]; rfl
    · rw [sup_bx h n k (by omega), h2]; rfl
end M

set_option maxHeartbeats 4000000
namespace M
open PySem L2 PyProof.Rows
section
variable {X : Cx}
def getL : V → V → Hp → VK → Prop := fun x y H Q => match x with
  | .ref p => ixO (H p) y fun v => (∃ xs, H p = some (.lst xs)) ∧ Q v H
  | _ => False
theorem e_getL {p : Addr} {y : V} {H : Hp} {Q : VK} : getL (.ref p) y H Q = ixO (H p) y fun v => (∃ xs, H p = some (.lst xs)) ∧ Q v H := rfl
end
def nl (ls : List Int) : List Nat := ls.map Int.toNat
def wL (ls : List Int) : Nat := ((nl ls).foldl (fun L n => L + n - 1) 1)
theorem wL_snoc (ls : List Int) (n : Int) : wL (ls ++ [n]) = wL ls + n.toNat - 1 := by unfold wL nl; rw [List.map_append, List.foldl_append]; rfl
theorem wL_pos {ls : List Int} (h : ∀ n ∈ ls, 1 ≤ n) : 1 ≤ wL ls := by
  suffices ∀ (ms : List Int) (L : Nat), (∀ n ∈ ms, 1 ≤ n) → 1 ≤ L → 1 ≤ (nl ms).foldl (fun L n => L + n - 1) L from this ls 1 h (by omega)
  intro ms
  induction ms with
  | nil => intro L _ hL; exact hL
  | cons n ms ih =>
    intro L hm hL
    have := hm n (by simp)
    exact ih (L + n.toNat - 1) (fun x hx => hm x (by simp [hx])) (by omega)
theorem wF_sup {ls : List Int} : Sup (wL ls) (wF (nl ls)) := by
  suffices ∀ (ms : List Nat) (L : Nat) (f : PF), Sup L f → Sup (ms.foldl (fun L n => L + n - 1) L) (ms.foldl (fun f n => bx n f) f) from this (nl ls) 1 dl (fun k hk => by unfold dl; rw [if_neg (by omega)])
  intro ms
  induction ms with
  | nil => intro L f h; exact h
  | cons n ms ih => intro L f h; exact ih _ _ (sup_bx h n)
end M

set_option maxHeartbeats 4000000
namespace M
open PySem L2 PyProof.Rows
section
variable {g : TG} {tb : TS} {D : Ends} {σ : L2.St} {H : Hp}
end
theorem sum_succ (M : Nat) (f : PF) : (vlF (M + 1) f).sum = (vlF M f).sum + f M := by
  unfold vlF; rw [List.range_succ, List.map_append, List.sum_append]; simp
theorem sum_ad (f g : PF) : ∀ M : Nat, (vlF M (adP f g)).sum = (vlF M f).sum + (vlF M g).sum
  | 0 => rfl
  | M + 1 => by rw [sum_succ, sum_succ, sum_succ, sum_ad f g M]; unfold adP; omega
theorem sum_zero {f : PF} : ∀ {M : Nat}, (∀ k, k < M → f k = 0) → (vlF M f).sum = 0
  | 0, _ => rfl
  | M + 1, h => by rw [sum_succ, sum_zero (fun k hk => h k (by omega)), h M (by omega)]; rfl
theorem sum_sh (n : Nat) (f : PF) : ∀ M : Nat, (vlF (M + n) (shF n f)).sum = (vlF M f).sum
  | 0 => by rw [Nat.zero_add, sum_zero (fun k hk => by unfold shF; rw [if_neg (by omega)])]; rfl
  | M + 1 => by
    rw [show M + 1 + n = (M + n) + 1 by omega, sum_succ, sum_succ, sum_sh n f M]
    unfold shF; rw [if_pos (by omega), Nat.add_sub_cancel]
theorem sum_sup {L : Nat} {f : PF} (h : Sup L f) : ∀ d : Nat, (vlF (L + d) f).sum = (vlF L f).sum
  | 0 => rfl
  | d + 1 => by rw [show L + (d + 1) = (L + d) + 1 by omega, sum_succ, sum_sup h d, h _ (by omega)]; omega
theorem sum_bx {L : Nat} {f : PF} (h : Sup L f) : ∀ n : Nat, (vlF (L + n) (bx n f)).sum = n * (vlF L f).sum
  | 0 => by rw [sum_zero (f := bx 0 f) (fun _ _ => rfl)]; simp
  | n + 1 => by
    have h1 : (vlF (L + (n + 1)) (bx n f)).sum = (vlF (L + n) (bx n f)).sum := by
      rw [show L + (n + 1) = (L + n) + 1 by omega, sum_succ, sup_bx h n _ (by omega)]; omega
    have h2 : (vlF (L + (n + 1)) (shF n f)).sum = (vlF L f).sum := by
      rw [show L + (n + 1) = (L + 1) + n by omega, sum_sh, sum_sup h 1]
    rw [bx, sum_ad, h1, h2, sum_bx h n, Int.natCast_add, Int.add_mul]; simp
theorem sum_bx1 {L : Nat} {f : PF} (h : Sup L f) (n : Nat) (hn : 1 ≤ n) : (vlF (L + n - 1) (bx n f)).sum = n * (vlF L f).sum := by
  rw [← sum_bx h n, show L + n = (L + n - 1) + 1 by omega, sum_succ, sup_bx h n _ (Nat.le_refl _)]
  simp
def prL (ls : List Int) : Int := ls.foldl (· * ·) 1
theorem prL_snoc (ls : List Int) (n : Int) : prL (ls ++ [n]) = prL ls * n := by unfold prL; rw [List.foldl_append]; rfl
theorem nl_snoc (ls : List Int) (n : Int) : nl (ls ++ [n]) = nl ls ++ [n.toNat] := by unfold nl; rw [List.map_append]; rfl
theorem rev_ind {P : List Int → Prop} (h0 : P []) (h1 : ∀ l x, P l → P (l ++ [x])) (l : List Int) : P l := by
  rw [← List.reverse_reverse l]
  induction l.reverse with
  | nil => exact h0
  | cons x r ih => rw [List.reverse_cons]; exact h1 _ _ ih
theorem sum_wF {ls : List Int} : (∀ n ∈ ls, 1 ≤ n) → (vlF (wL ls) (wF (nl ls))).sum = prL ls := by
  refine rev_ind (P := fun ls => (∀ n ∈ ls, 1 ≤ n) → (vlF (wL ls) (wF (nl ls))).sum = prL ls) (fun _ => rfl) (fun l x ih h => ?_) ls
  have hx := h x (by simp)
  rw [wL_snoc, nl_snoc, wF_snoc, sum_bx1 wF_sup _ (by omega), ih (fun n hn => h n (by simp [hn])), prL_snoc, Int.mul_comm]
  congr 1; omega
theorem wL_sum {ls : List Int} : (∀ n ∈ ls, 1 ≤ n) → (wL ls : Int) = ls.sum - ls.length + 1 := by
  refine rev_ind (P := fun ls => (∀ n ∈ ls, 1 ≤ n) → (wL ls : Int) = ls.sum - ls.length + 1) (fun _ => rfl) (fun l x ih h => ?_) ls
  have hx := h x (by simp)
  have hl := ih (fun n hn => h n (by simp [hn]))
  have h1 : 1 ≤ wL l := wL_pos (fun n hn => h n (by simp [hn]))
  rw [wL_snoc, List.sum_append, List.length_append]
  simp only [List.sum_cons, List.sum_nil, List.length_cons, List.length_nil]
  omega
def wV (ls : List Int) : List Int := vlF (wL ls) (wF (nl ls))
theorem wL_take {ls : List Int} (hp : ∀ n ∈ ls, 1 ≤ n) (k : Nat) : wL (ls.take k) ≤ wL ls := by
  have h1 := wL_sum (ls := ls.take k) (fun n hn => hp n (List.mem_of_mem_take hn))
  have h2 := wL_sum hp
  have h3 : ls.sum = (ls.take k).sum + (ls.drop k).sum := by rw [← List.sum_append, List.take_append_drop]
  have h4 : ls.length = (ls.take k).length + (ls.drop k).length := by rw [← List.length_append, List.take_append_drop]
  have h5 : ((ls.drop k).length : Int) ≤ (ls.drop k).sum := by
    have hq : ∀ n ∈ ls.drop k, 1 ≤ n := fun n hn => hp n (List.mem_of_mem_drop hn)
    have h6 := wL_sum hq
    have h7 := wL_pos hq
    omega
  omega
def Lens (ls : List Int) : Prop := (∀ n ∈ ls, 1 ≤ n ∧ n ≤ 1000) ∧ ls.length ≤ 20
theorem Lens.pos {ls : List Int} (h : Lens ls) : ∀ n ∈ ls, 1 ≤ n := fun n hn => (h.1 n hn).1
theorem Lens.wL {ls : List Int} (h : Lens ls) (k : Nat) : wL (ls.take k) ≤ 100000 := by
  refine Nat.le_trans (wL_take h.pos k) ?_
  have h1 := wL_sum h.pos
  have h2 : ∀ ms : List Int, (∀ n ∈ ms, 1 ≤ n ∧ n ≤ 1000) → ms.sum ≤ 1000 * ms.length := by
    intro ms
    induction ms with
    | nil => intro _; exact Int.le_refl _
    | cons x r ih =>
      intro hm
      have := ih (fun n hn => hm n (by simp [hn]))
      have := hm x (by simp)
      rw [List.sum_cons, List.length_cons]; omega
  have h3 := h2 ls h.1
  have h4 := h.2
  omega
end M

set_option maxHeartbeats 4000000
namespace M
open PySem L2 PyProof.Rows
def Nn (f : PF) : Prop := ∀ k, 0 ≤ f k
theorem nn_bx {f : PF} (h : Nn f) : ∀ n : Nat, Nn (bx n f)
  | 0 => fun _ => Int.le_refl _
  | n + 1 => fun k => by
    show 0 ≤ bx n f k + shF n f k
    have h1 := nn_bx h n k
    have h2 : 0 ≤ shF n f k := by unfold shF; split; exact h _; exact Int.le_refl _
    omega
theorem nn_wF (ls : List Nat) : Nn (wF ls) := by
  suffices ∀ (ms : List Nat) (f : PF), Nn f → Nn (ms.foldl (fun f n => bx n f) f) from this ls dl (fun k => by unfold dl; split <;> decide)
  intro ms
  induction ms with
  | nil => intro f h; exact h
  | cons n r ih => intro f h; exact ih _ (nn_bx h n)
theorem wV_nn (ls : List Int) : ∀ x ∈ wV ls, 0 ≤ x := fun x hx => by
  unfold wV vlF at hx
  obtain ⟨k, _, rfl⟩ := List.mem_map.mp hx
  exact nn_wF _ k
end M

set_option maxHeartbeats 4000000
namespace M
open PySem L2 PyProof.Rows
theorem sum_le_mul {m : Int} : ∀ (ms : List Int), (∀ n ∈ ms, n ≤ m) → ms.sum ≤ m * ms.length
  | [], _ => by simp
  | x :: r, h => by
    have h1 := sum_le_mul r (fun n hn => h n (by simp [hn]))
    have h2 := h x (by simp)
    rw [List.sum_cons, List.length_cons]
    have : m * ((r.length + 1 : Nat) : Int) = m * r.length + m := by rw [show ((r.length + 1 : Nat) : Int) = (r.length : Int) + 1 by omega, Int.mul_add, Int.mul_one]
    omega
end M

set_option maxHeartbeats 4000000
namespace M
open PySem L2 PyProof.Rows
structure Um (L : Nat) (f : PF) : Prop where
  sym : ∀ i j, i + j + 1 = L → f i = f j
  up : ∀ k, 2 * k + 2 ≤ L → f k ≤ f (k + 1)
  nn : Nn f
  sup : Sup L f
theorem Um.chain {L : Nat} {f : PF} (U : Um L f) {i : Nat} : ∀ j, i ≤ j → 2 * j ≤ L → f i ≤ f j
  | 0, h, _ => by rw [Nat.le_zero.mp h]; exact Int.le_refl _
  | j + 1, h, hL => by
    by_cases e : i = j + 1
    · rw [e]; exact Int.le_refl _
    · exact Int.le_trans (U.chain j (by omega) (by omega)) (U.up j (by omega))
theorem Um.mono {L : Nat} {f : PF} (U : Um L f) {i j : Nat} (h : i ≤ j) (hL : i + j + 1 ≤ L) : f i ≤ f j := by
  by_cases h2 : 2 * j ≤ L
  · exact U.chain j h h2
  · by_cases hj : j < L
    · rw [U.sym j (L - 1 - j) (by omega)]
      exact U.chain _ (by omega) (by omega)
    · omega
end M

set_option maxHeartbeats 4000000
namespace M
open PySem L2 PyProof.Rows
structure Nb (p q most a b c d : Int) : Prop where
  b1 : 1 ≤ b
  bm : b ≤ most
  d1 : 1 ≤ d
  dm : d ≤ most
  a0 : 0 ≤ a
  ab : a ≤ b
  c0 : 0 ≤ c
  cd : c ≤ d
  nb : c * b - a * d = 1
  lo : a * q < p * b
  hi : p * d < c * q
def drM (p q most a b c d : Int) : Int := min (((p * b - a * q).natAbs : Int) / ((p * d - c * q).natAbs : Int)) ((most - b) / d)
theorem dvd_le {p q x y : Int} (hg : Int.gcd p q = 1) (hy : 1 ≤ y) (e : p * y = x * q) : q ≤ y := by
  have h1 : q ∣ p * y := ⟨x, by rw [e, Int.mul_comm]⟩
  have h2 : q ∣ y := dvd_cop h1 (by rw [Int.gcd_comm]; exact hg)
  exact Int.le_of_dvd (by omega) h2
theorem min_div {u s k m : Int} (hu : 0 ≤ u) (hs : 1 ≤ s) (hk : 0 ≤ k) (hm : m = min (u / s) k) : 0 ≤ m ∧ m * s ≤ u ∧ m ≤ k ∧ (m = 0 → 1 ≤ k → u < s) := by
  have h1 : 0 ≤ u / s := Int.ediv_nonneg hu (by omega)
  have h2 : u / s * s ≤ u := Int.ediv_mul_le u (by omega)
  have hm1 : m ≤ u / s := by omega
  have h3 : m * s ≤ u / s * s := Int.mul_le_mul_of_nonneg_right hm1 (by omega)
  refine ⟨by omega, by omega, by omega, fun h0 hk1 => ?_⟩
  have : u / s = 0 := by omega
  exact Int.lt_of_ediv_lt_one' this hs
where
  Int.lt_of_ediv_lt_one' {u s : Int} (h : u / s = 0) (hs : 1 ≤ s) : u < s := by
    have := Int.lt_ediv_add_one_mul_self u (show 0 < s by omega)
    rw [h] at this; omega
theorem Nb.low {p q most a b c d m : Int} (N : Nb p q most a b c d) (hq : most < q) (hg : Int.gcd p q = 1) (hm : m = drM p q most a b c d) :
    Nb p q most (a + m * c) (b + m * d) c d ∧ 0 ≤ m ∧ m ≤ most ∧ (m = 0 → b + d ≤ most → p * b - a * q < c * q - p * d) := by
  have hu : 0 < p * b - a * q := by have := N.lo; omega
  have hs : 0 < c * q - p * d := by have := N.hi; omega
  have e1 : ((p * b - a * q).natAbs : Int) = p * b - a * q := by omega
  have e2 : ((p * d - c * q).natAbs : Int) = c * q - p * d := by omega
  have hb := N.bm
  have hd1 := N.d1
  have hk : 0 ≤ (most - b) / d := Int.ediv_nonneg (by omega) (by omega)
  unfold drM at hm
  rw [e1, e2] at hm
  obtain ⟨m0, m1, m2, m3⟩ := min_div (by omega) hs hk hm
  have h4 : (most - b) / d * d ≤ most - b := Int.ediv_mul_le _ (by omega)
  have h5 : m * d ≤ (most - b) / d * d := Int.mul_le_mul_of_nonneg_right m2 (by omega)
  have h6 : 0 ≤ m * d := Int.mul_nonneg m0 (by omega)
  have h7 : 0 ≤ m * c := Int.mul_nonneg m0 N.c0
  have h8 : m * c ≤ m * d := Int.mul_le_mul_of_nonneg_left N.cd m0
  have h9 : m * 1 ≤ m * d := Int.mul_le_mul_of_nonneg_left hd1 m0
  have hb1 := N.b1
  have ha0 := N.a0
  have hab := N.ab
  have ee : p * (b + m * d) - (a + m * c) * q = (p * b - a * q) - m * (c * q - p * d) := by grind
  refine ⟨⟨by omega, by omega, hd1, N.dm, by omega, by omega, N.c0, N.cd, ?_, ?_, N.hi⟩, m0, by omega, fun h0 hbd => m3 h0 ?_⟩
  · have := N.nb; grind
  · have hne : p * (b + m * d) ≠ (a + m * c) * q := fun e => by
      have := dvd_le hg (by omega) e; omega
    omega
  · exact (Int.le_ediv_iff_mul_le (by omega)).mpr (by omega)
theorem Nb.high {p q most a b c d m : Int} (N : Nb p q most a b c d) (hq : most < q) (hg : Int.gcd p q = 1) (hm : m = drM p q most c d a b) :
    Nb p q most a b (c + m * a) (d + m * b) ∧ 0 ≤ m ∧ m ≤ most ∧ (m = 0 → b + d ≤ most → c * q - p * d < p * b - a * q) := by
  have hu : 0 < p * b - a * q := by have := N.lo; omega
  have hs : 0 < c * q - p * d := by have := N.hi; omega
  have e1 : ((p * b - a * q).natAbs : Int) = p * b - a * q := by omega
  have e2 : ((p * d - c * q).natAbs : Int) = c * q - p * d := by omega
  have hd := N.dm
  have hb1 := N.b1
  have hk : 0 ≤ (most - d) / b := Int.ediv_nonneg (by omega) (by omega)
  unfold drM at hm
  rw [e1, e2] at hm
  obtain ⟨m0, m1, m2, m3⟩ := min_div (by omega) hu hk hm
  have h4 : (most - d) / b * b ≤ most - d := Int.ediv_mul_le _ (by omega)
  have h5 : m * b ≤ (most - d) / b * b := Int.mul_le_mul_of_nonneg_right m2 (by omega)
  have h6 : 0 ≤ m * b := Int.mul_nonneg m0 (by omega)
  have h7 : 0 ≤ m * a := Int.mul_nonneg m0 N.a0
  have h8 : m * a ≤ m * b := Int.mul_le_mul_of_nonneg_left N.ab m0
  have h9 : m * 1 ≤ m * b := Int.mul_le_mul_of_nonneg_left hb1 m0
  have hd1 := N.d1
  have hc0 := N.c0
  have hcd := N.cd
  have ee : (c + m * a) * q - p * (d + m * b) = (c * q - p * d) - m * (p * b - a * q) := by grind
  refine ⟨⟨hb1, N.bm, by omega, by omega, N.a0, N.ab, by omega, by omega, ?_, N.lo, ?_⟩, m0, by omega, fun h0 hbd => m3 h0 ?_⟩
  · have := N.nb; grind
  · have hne : p * (d + m * b) ≠ (c + m * a) * q := fun e => by
      have := dvd_le hg (by omega) e; omega
    omega
  · exact (Int.le_ediv_iff_mul_le (by omega)).mpr (by omega)
structure Arnd (p q most a b c d : Int) : Prop where
  b1 : 1 ≤ b
  bm : b ≤ most
  d1 : 1 ≤ d
  dm : d ≤ most
  a0 : 0 ≤ a
  ab : a ≤ b
  c0 : 0 ≤ c
  cd : c ≤ d
  g1 : Int.gcd a b = 1
  g2 : Int.gcd c d = 1
  lo : a * q ≤ p * b
  hi : p * d ≤ c * q
  low : ∀ x y, 1 ≤ y → y ≤ most → x * q ≤ p * y → x * b ≤ a * y
  high : ∀ x y, 1 ≤ y → y ≤ most → p * y ≤ x * q → c * y ≤ x * d
theorem Arnd.self {p q most : Int} (hq : 1 ≤ q) (hm : q ≤ most) (hp : 0 ≤ p) (hpq : p ≤ q) (hg : Int.gcd p q = 1) : Arnd p q most p q p q :=
  ⟨hq, hm, hq, hm, hp, hpq, hp, hpq, hg, hg, Int.le_refl _, Int.le_refl _, fun _ _ _ _ h => h, fun _ _ _ _ h => h⟩
theorem Nb.between {p q most a b c d x y : Int} (N : Nb p q most a b c d) (he : most < b + d) (hy : 1 ≤ y) (hym : y ≤ most) (h1 : a * y < x * b) (h2 : x * d < c * y) : False := by
  have e : y = b * (c * y - x * d) + d * (x * b - a * y) := by
    have : b * (c * y - x * d) + d * (x * b - a * y) = y * (c * b - a * d) := by grind
    rw [this, N.nb, Int.mul_one]
  have h3 : b * 1 ≤ b * (c * y - x * d) := Int.mul_le_mul_of_nonneg_left (by omega) (by have := N.b1; omega)
  have h4 : d * 1 ≤ d * (x * b - a * y) := Int.mul_le_mul_of_nonneg_left (by omega) (by have := N.d1; omega)
  omega
theorem mul_pos_lt {x y z : Int} (h : x * z < y * z) (hz : 0 < z) : x < y := Int.lt_of_mul_lt_mul_right h (by omega)
structure Nrst (p q most x y : Int) : Prop where
  y1 : 1 ≤ y
  ym : y ≤ most
  x0 : 0 ≤ x
  xy : x ≤ y
  cop : Int.gcd x y = 1
  best : ∀ x' y', 1 ≤ y' → y' ≤ most → ((x * q - p * y).natAbs : Int) * y' < ((x' * q - p * y').natAbs : Int) * y ∨ ((x * q - p * y).natAbs : Int) * y' = ((x' * q - p * y').natAbs : Int) * y ∧ x * y' ≤ x' * y
theorem cop_eq {x y x' y' : Int} (hy : 1 ≤ y) (hy' : 1 ≤ y') (h : Int.gcd x y = 1) (h' : Int.gcd x' y' = 1) (e : x * y' = x' * y) : x = x' ∧ y = y' := by
  have d1 : y ∣ y' := dvd_cop (⟨x', by rw [e, Int.mul_comm]⟩ : y ∣ x * y') (by rw [Int.gcd_comm]; exact h)
  have d2 : y' ∣ y := dvd_cop (⟨x, by rw [← e, Int.mul_comm]⟩ : y' ∣ x' * y) (by rw [Int.gcd_comm]; exact h')
  have ey : y = y' := Int.dvd_antisymm (by omega) (by omega) d1 d2
  subst ey
  exact ⟨Int.eq_of_mul_eq_mul_right (by omega) e, rfl⟩
theorem Nrst.unique {p q most x y x' y' : Int} (N : Nrst p q most x y) (N' : Nrst p q most x' y') : x = x' ∧ y = y' := by
  refine cop_eq N.y1 N'.y1 N.cop N'.cop ?_
  rcases N.best x' y' N'.y1 N'.ym with h | ⟨h, h1⟩
  · rcases N'.best x y N.y1 N.ym with g | ⟨g, _⟩ <;> omega
  · rcases N'.best x y N.y1 N.ym with g | ⟨g, g1⟩
    · omega
    · exact Int.le_antisymm h1 g1
theorem Arnd.far {p q most a b c d x y : Int} (A : Arnd p q most a b c d) (hy : 1 ≤ y) (hym : y ≤ most) :
    (x * q ≤ p * y ∧ (p * b - a * q) * y ≤ ((x * q - p * y).natAbs : Int) * b ∧ ((p * b - a * q) * y = ((x * q - p * y).natAbs : Int) * b → a * y * q ≤ x * b * q)) ∨
    (p * y ≤ x * q ∧ (c * q - p * d) * y ≤ ((x * q - p * y).natAbs : Int) * d ∧ ((c * q - p * d) * y = ((x * q - p * y).natAbs : Int) * d → c * y * q ≤ x * d * q)) := by
  have hb := A.b1
  have hd := A.d1
  by_cases h : x * q ≤ p * y
  · left
    have h1 := A.low x y hy hym h
    rw [show ((x * q - p * y).natAbs : Int) = p * y - x * q by omega]
    have e : (p * y - x * q) * b - (p * b - a * q) * y = (a * y - x * b) * q := by grind
    have hq : 0 ≤ (a * y - x * b) * q ∨ q < 0 := by
      by_cases hq : 0 ≤ q
      · exact .inl (Int.mul_nonneg (by omega) hq)
      · exact .inr (by omega)
    refine ⟨h, ?_, fun e2 => ?_⟩
    · rcases hq with hq | hq
      · omega
      · exfalso
        -- q < 0 cannot be, see the low bound at its own share
        have := A.low (x - 1) y hy hym
        have := A.low (a + 1) b A.b1 A.bm
        have h3 : (a + 1) * q ≤ p * b := by have := A.lo; have : (a + 1) * q = a * q + q := by rw [Int.add_mul, Int.one_mul]
                                            omega
        have h4 := this h3
        have : (a + 1) * b = a * b + b := by rw [Int.add_mul, Int.one_mul]
        omega
    · have e3 : (a * y - x * b) * q = a * y * q - x * b * q := by rw [Int.sub_mul]
      omega
  · right
    have h1 := A.high x y hy hym (by omega)
    rw [show ((x * q - p * y).natAbs : Int) = x * q - p * y by omega]
    have e : (x * q - p * y) * d - (c * q - p * d) * y = (x * d - c * y) * q := by grind
    have hq : 0 ≤ (x * d - c * y) * q ∨ q < 0 := by
      by_cases hq : 0 ≤ q
      · exact .inl (Int.mul_nonneg (by omega) hq)
      · exact .inr (by omega)
    refine ⟨by omega, ?_, fun e2 => ?_⟩
    · rcases hq with hq | hq
      · omega
      · exfalso
        have := A.high (c - 1) d A.d1 A.dm
        have h3 : p * d ≤ (c - 1) * q := by have := A.hi; have : (c - 1) * q = c * q - q := by rw [Int.sub_mul, Int.one_mul]
                                            omega
        have h4 := this h3
        have : (c - 1) * d = c * d - d := by rw [Int.sub_mul, Int.one_mul]
        omega
    · have e3 : (x * d - c * y) * q = x * d * q - c * y * q := by rw [Int.sub_mul]
      omega
end M

set_option maxHeartbeats 4000000
namespace M
open PySem L2 PyProof.Rows
end M

set_option maxHeartbeats 4000000
namespace M
open PySem L2 PyProof.Rows
def Pk (ls : List Int) (pk : Int) : Prop := pk ∈ wV ls ∧ ∀ y, y ∈ wV ls → y ≤ pk
theorem Pk.pos {ls : List Int} {pk : Int} (h : Pk ls pk) (pos : ∀ n ∈ ls, 1 ≤ n) (hp : 1 ≤ prL ls) : 1 ≤ pk := by
  have h1 := sum_le_mul (wV ls) h.2
  rw [show (wV ls).sum = prL ls from sum_wF pos] at h1
  by_cases hk : 1 ≤ pk
  · exact hk
  · exfalso
    have : pk * ((wV ls).length : Int) ≤ 0 := Int.mul_nonpos_of_nonpos_of_nonneg (by omega) (by omega)
    omega
theorem Pk.unique {ls : List Int} {pk pk' : Int} (h : Pk ls pk) (h' : Pk ls pk') : pk = pk' := Int.le_antisymm (h'.2 _ h.1) (h.2 _ h'.1)
theorem Pk.le {ls : List Int} {pk : Int} (h : Pk ls pk) (pos : ∀ n ∈ ls, 1 ≤ n) : pk ≤ prL ls := by
  rw [← sum_wF pos]
  have h1 := wV_nn ls
  obtain ⟨hm, _⟩ := h
  show pk ≤ (wV ls).sum
  revert h1 hm
  generalize wV ls = ws
  induction ws with
  | nil => intro _ hm; simp at hm
  | cons x r ih =>
    intro hn hm
    have hx := hn x (by simp)
    have hr : 0 ≤ r.sum := by
      have : ∀ r : List Int, (∀ y ∈ r, 0 ≤ y) → 0 ≤ r.sum := fun r => by
        induction r with
        | nil => intro _; exact Int.le_refl _
        | cons z t iht => intro hz; have := iht (fun y hy => hz y (by simp [hy])); have := hz z (by simp); rw [List.sum_cons]; omega
      exact this r (fun y hy => hn y (by simp [hy]))
    rw [List.sum_cons]
    rcases List.mem_cons.mp hm with rfl | hm
    · omega
    · have := ih (fun y hy => hn y (by simp [hy])) hm; omega
structure IsSure (whole pk m : Int) : Prop where
  m1 : 1 ≤ m
  ok : 2 * pk * (m * (m - 1)) ≤ whole
  no : whole < 2 * pk * ((m + 1) * m)
theorem IsSure.le {whole pk m m' : Int} (hk : 1 ≤ pk) (h : IsSure whole pk m) (h1 : 1 ≤ m') (h' : 2 * pk * (m' * (m' - 1)) ≤ whole) : m' ≤ m := by
  by_cases hlt : m' ≤ m
  · exact hlt
  · exfalso
    have i1 : (m + 1) * m ≤ m' * (m' - 1) := Int.mul_le_mul (by omega) (by omega) (by have := h.m1; omega) (by omega)
    have i2 : 2 * pk * ((m + 1) * m) ≤ 2 * pk * (m' * (m' - 1)) := Int.mul_le_mul_of_nonneg_left i1 (by omega)
    have := h.no
    omega
theorem IsSure.unique {whole pk m m' : Int} (hk : 1 ≤ pk) (h : IsSure whole pk m) (h' : IsSure whole pk m') : m = m' :=
  Int.le_antisymm (h'.le hk h.m1 h.ok) (h.le hk h'.m1 h'.ok)
theorem IsSure.whole {whole pk m : Int} (hk : 1 ≤ pk) (hw : 1 ≤ whole) (h : IsSure whole pk m) : m ≤ whole := by
  by_cases h2 : m = 1
  · omega
  · have hm := h.m1
    have i1 : m * 1 ≤ m * (m - 1) := Int.mul_le_mul_of_nonneg_left (by omega) (by omega)
    have i2 : 2 * 1 * (m * (m - 1)) ≤ 2 * pk * (m * (m - 1)) := Int.mul_le_mul_of_nonneg_right (by omega) (Int.mul_nonneg (by omega) (by omega))
    have := h.ok
    omega
end M

set_option maxHeartbeats 4000000
namespace M
open PySem L2 PyProof.Rows
def farD (T B x y : Int) : Int := ((x * B - T * y).natAbs : Int)
def NLe (T B x y x' y' : Int) : Prop := farD T B x y * y' < farD T B x' y' * y ∨ (farD T B x y * y' = farD T B x' y' * y ∧ x * y' ≤ x' * y)
theorem NLe.refl (T B x y : Int) : NLe T B x y x y := .inr ⟨rfl, Int.le_refl _⟩
theorem cross_le {a b c d e f : Int} (hb : 1 ≤ b) (hd : 1 ≤ d) (hf : 1 ≤ f) (h1 : a * d ≤ c * b) (h2 : c * f ≤ e * d) : a * f ≤ e * b := by
  have i1 : a * d * f ≤ c * b * f := Int.mul_le_mul_of_nonneg_right h1 (by omega)
  have i2 : c * f * b ≤ e * d * b := Int.mul_le_mul_of_nonneg_right h2 (by omega)
  have e1 : c * b * f = c * f * b := by rw [Int.mul_assoc, Int.mul_comm b f, Int.mul_assoc]
  have e2 : a * d * f = a * f * d := by rw [Int.mul_assoc, Int.mul_comm d f, Int.mul_assoc]
  have e3 : e * d * b = e * b * d := by rw [Int.mul_assoc, Int.mul_comm d b, Int.mul_assoc]
  exact Int.le_of_mul_le_mul_right (show a * f * d ≤ e * b * d by omega) (by omega)
theorem cross_lt1 {a b c d e f : Int} (hb : 1 ≤ b) (hd : 1 ≤ d) (hf : 1 ≤ f) (h1 : a * d < c * b) (h2 : c * f ≤ e * d) : a * f < e * b := by
  have i1 : a * d * f < c * b * f := Int.mul_lt_mul_of_pos_right h1 (by omega)
  have i2 : c * f * b ≤ e * d * b := Int.mul_le_mul_of_nonneg_right h2 (by omega)
  have e1 : c * b * f = c * f * b := by rw [Int.mul_assoc, Int.mul_comm b f, Int.mul_assoc]
  have e2 : a * d * f = a * f * d := by rw [Int.mul_assoc, Int.mul_comm d f, Int.mul_assoc]
  have e3 : e * d * b = e * b * d := by rw [Int.mul_assoc, Int.mul_comm d b, Int.mul_assoc]
  exact mul_pos_lt (show a * f * d < e * b * d by omega) (by omega)
theorem cross_lt2 {a b c d e f : Int} (hb : 1 ≤ b) (hd : 1 ≤ d) (hf : 1 ≤ f) (h1 : a * d ≤ c * b) (h2 : c * f < e * d) : a * f < e * b := by
  have i1 : a * d * f ≤ c * b * f := Int.mul_le_mul_of_nonneg_right h1 (by omega)
  have i2 : c * f * b < e * d * b := Int.mul_lt_mul_of_pos_right h2 (by omega)
  have e1 : c * b * f = c * f * b := by rw [Int.mul_assoc, Int.mul_comm b f, Int.mul_assoc]
  have e2 : a * d * f = a * f * d := by rw [Int.mul_assoc, Int.mul_comm d f, Int.mul_assoc]
  have e3 : e * d * b = e * b * d := by rw [Int.mul_assoc, Int.mul_comm d b, Int.mul_assoc]
  exact mul_pos_lt (show a * f * d < e * b * d by omega) (by omega)
theorem NLe.trans {T B x y x' y' x'' y'' : Int} (hy : 1 ≤ y) (hy' : 1 ≤ y') (hy'' : 1 ≤ y'') (h : NLe T B x y x' y') (h' : NLe T B x' y' x'' y'') : NLe T B x y x'' y'' := by
  rcases h with h | ⟨h, g⟩
  · left
    rcases h' with h' | ⟨h', _⟩
    · exact cross_lt1 hy hy' hy'' h (Int.le_of_lt h')
    · exact cross_lt1 hy hy' hy'' h (Int.le_of_eq h')
  · rcases h' with h' | ⟨h', g'⟩
    · exact .inl (cross_lt2 hy hy' hy'' (Int.le_of_eq h) h')
    · exact .inr ⟨Int.le_antisymm (cross_le hy hy' hy'' (Int.le_of_eq h) (Int.le_of_eq h')) (cross_le hy'' hy' hy (Int.le_of_eq h'.symm) (Int.le_of_eq h.symm)), cross_le hy hy' hy'' g g'⟩
theorem farD_cong {T B x y x' y' : Int} (hy : 1 ≤ y) (hy' : 1 ≤ y') (e : x * y' = x' * y) : farD T B x y * y' = farD T B x' y' * y := by
  unfold farD
  rw [← Int.natAbs_of_nonneg (show 0 ≤ y by omega), ← Int.natAbs_of_nonneg (show 0 ≤ y' by omega)]
  have e2 : (x * B - T * y) * y' = (x' * B - T * y') * y := by grind
  have := congrArg Int.natAbs e2
  rw [Int.natAbs_mul, Int.natAbs_mul] at this
  rw [Int.natAbs_of_nonneg (show 0 ≤ y by omega), Int.natAbs_of_nonneg (show 0 ≤ y' by omega)]
  have h3 : (((x * B - T * y).natAbs * y'.natAbs : Nat) : Int) = (((x' * B - T * y').natAbs * y.natAbs : Nat) : Int) := by rw [this]
  rw [Int.natCast_mul, Int.natCast_mul, Int.natAbs_of_nonneg (show 0 ≤ y by omega), Int.natAbs_of_nonneg (show 0 ≤ y' by omega)] at h3
  exact h3
theorem NLe.same {T B x y x' y' : Int} (hy : 1 ≤ y) (hy' : 1 ≤ y') (e : x * y' = x' * y) : NLe T B x y x' y' := .inr ⟨farD_cong hy hy' e, Int.le_of_eq e⟩
theorem NLe.below {T B x x' y at_ : Int} (hB : 1 ≤ B) (hy : 1 ≤ y) (h1 : at_ * B ≤ T * y) (hx : x' ≤ at_) (e : x = at_) : NLe T B x y x' y := by
  subst e
  unfold NLe farD
  by_cases h : x' = x
  · rw [h]; exact .inr ⟨rfl, Int.le_refl _⟩
  · left
    have i1 : x' * B ≤ (x - 1) * B := Int.mul_le_mul_of_nonneg_right (by omega) (by omega)
    rw [Int.sub_mul, Int.one_mul] at i1
    exact Int.mul_lt_mul_of_pos_right (by omega) (by omega)
theorem NLe.above {T B x x' y : Int} (hB : 1 ≤ B) (hy : 1 ≤ y) (h1 : T * y ≤ x * B) (hx : x ≤ x') : NLe T B x y x' y := by
  unfold NLe farD
  by_cases h : x' = x
  · rw [h]; exact .inr ⟨rfl, Int.le_refl _⟩
  · left
    have i1 : (x + 1) * B ≤ x' * B := Int.mul_le_mul_of_nonneg_right (by omega) (by omega)
    rw [Int.add_mul, Int.one_mul] at i1
    exact Int.mul_lt_mul_of_pos_right (by omega) (by omega)
structure BstN (T B : Int) (n x y : Int) : Prop where
  y1 : 1 ≤ y
  ym : y = 1 ∨ y ≤ n
  x0 : 0 ≤ x
  xy : x ≤ y
  cop : Int.gcd x y = 1
  best : ∀ x' y', 1 ≤ y' → y' ≤ n → NLe T B x y x' y'
end M

set_option maxHeartbeats 4000000
namespace L2
open PySem PySem.Spec PyProof.Rows
section
variable {X : Cx} {a b c d : Expr} {ta tb tc td : TE} {pos : Pos}
def tChain3 (r r' r'' : R2) (ta tb tc td : TE) : TE := fun σ H Q => ta σ H fun x H1 => tb σ H1 fun y H2 => r x y H2 fun z H3 => ∃ k, z = .bl k ∧
  (if k = true then tc σ H3 fun w' H4 => r' y w' H4 (fun z2 H5 => ∃ k2, z2 = .bl k2 ∧ (if k2 = true then td σ H5 fun w2 H6 => r'' w' w2 H6 Q else Q (.bl false) H5)) else Q (.bl false) H3)
end
end L2
namespace M
open PySem L2 PyProof.Rows
end M

set_option maxHeartbeats 4000000
namespace M
open PySem L2 PyProof.Rows
structure IsTop (whole m : Int) : Prop where
  m1 : 1 ≤ m
  ok : m * (m - 1) ≤ whole
  no : whole < (m + 1) * m
theorem IsTop.le {whole m m' : Int} (h : IsTop whole m) (h1 : 1 ≤ m') (h' : m' * (m' - 1) ≤ whole) : m' ≤ m := by
  by_cases hlt : m' ≤ m
  · exact hlt
  · exfalso
    have i1 : (m + 1) * m ≤ m' * (m' - 1) := Int.mul_le_mul (by omega) (by omega) (by have := h.m1; omega) (by omega)
    have := h.no
    omega
theorem IsTop.unique {whole m m' : Int} (h : IsTop whole m) (h' : IsTop whole m') : m = m' := Int.le_antisymm (h'.le h.m1 h.ok) (h.le h'.m1 h'.ok)
theorem IsTop.whole {whole m : Int} (hw : 0 ≤ whole) (h : IsTop whole m) : m ≤ whole + 1 := by
  by_cases h2 : m = 1
  · omega
  · have hm := h.m1
    have i1 : 2 * (m - 1) ≤ m * (m - 1) := Int.mul_le_mul_of_nonneg_right (by omega) (by omega)
    have := h.ok
    omega
structure InT (T W most x y : Int) : Prop where
  y1 : 1 ≤ y
  ym : y ≤ most
  x0 : 0 ≤ x
  xy : x ≤ y
  cop : Int.gcd x y = 1
  lo : T * y ≤ x * W
  hi : x * W < (T + 1) * y
theorem InT.unique {T W most x y x' y' : Int} (hW : 1 ≤ W) (hm : most * (most - 1) ≤ W) (h : InT T W most x y) (h' : InT T W most x' y') : x = x' ∧ y = y' := by
  refine cop_eq h.y1 h'.y1 h.cop h'.cop ?_
  have key : ∀ {x y x' y' : Int}, InT T W most x y → InT T W most x' y' → x' * y ≤ x * y' := fun {x y x' y'} h h' => by
    refine Int.not_lt.mp fun hlt => ?_
    have hy := h.y1
    have hy' := h'.y1
    have hym := h.ym
    have hym' := h'.ym
    -- (x' y - x y') W < y y'
    have i1 : x' * W * y < (T + 1) * y' * y := Int.mul_lt_mul_of_pos_right h'.hi (by omega)
    have i2 : T * y * y' ≤ x * W * y' := Int.mul_le_mul_of_nonneg_right h.lo (by omega)
    have e1 : (x' * y - x * y') * W = x' * W * y - x * W * y' := by grind
    have e2 : (T + 1) * y' * y = T * y * y' + y * y' := by grind
    have i3 : (x' * y - x * y') * W < y * y' := by omega
    by_cases he : y = y'
    · subst he
      have e3 : x' * y - x * y = (x' - x) * y := by rw [Int.sub_mul]
      have hd : 1 ≤ x' - x := by
        by_cases hd : 1 ≤ x' - x
        · exact hd
        · exfalso
          have : (x' - x) * y ≤ 0 := Int.mul_nonpos_of_nonpos_of_nonneg (by omega) (by omega)
          omega
      have i4 : 1 * y ≤ (x' - x) * y := Int.mul_le_mul_of_nonneg_right hd (by omega)
      have i5 : y * W ≤ (x' * y - x * y) * W := Int.mul_le_mul_of_nonneg_right (by omega) (by omega)
      have i6 : y * W < y * y := by omega
      have i7 : W < y := Int.lt_of_mul_lt_mul_left i6 (by omega)
      by_cases h1 : most = 1
      · omega
      · have i8 : 1 * most ≤ (most - 1) * most := Int.mul_le_mul_of_nonneg_right (by omega) (by omega)
        rw [Int.mul_comm (most - 1) most] at i8
        omega
    · have i4 : 1 * W ≤ (x' * y - x * y') * W := Int.mul_le_mul_of_nonneg_right (by omega) (by omega)
      have i5 : y * y' ≤ most * (most - 1) := by
        by_cases hl : y < y'
        · rw [Int.mul_comm]; exact Int.mul_le_mul hym' (by omega) (by omega) (by omega)
        · exact Int.mul_le_mul hym (by omega) (by omega) (by omega)
      omega
  exact Int.le_antisymm (key h' h) (key h h')
end M

set_option maxHeartbeats 4000000
namespace M
open PySem L2 PyProof.Rows
theorem InT.same {T T' W most x y : Int} (h : InT T W most x y) (h' : InT T' W most x y) : T = T' := by
  have hy := h.y1
  have key : ∀ {T T' : Int}, InT T W most x y → InT T' W most x y → T ≤ T' := fun {T T'} h h' => by
    have i1 : T * y < (T' + 1) * y := Int.lt_of_le_of_lt h.lo h'.hi
    have := mul_pos_lt i1 (by omega)
    omega
  exact Int.le_antisymm (key h h') (key h' h)
end M

set_option maxHeartbeats 4000000
namespace L2
open PySem PySem.Spec PyProof.Rows
end L2
namespace M
open PySem L2 PyProof.Rows
end M

set_option maxHeartbeats 4000000
namespace M
open PySem L2 PyProof.Rows
theorem Nrst.self {p q most : Int} (hq : 1 ≤ q) (hm : q ≤ most) (hp : 0 ≤ p) (hpq : p ≤ q) (hg : Int.gcd p q = 1) : Nrst p q most p q :=
  ⟨hq, hm, hp, hpq, hg, fun x' y' h1 h2 => by
    have e : ((p * q - p * q).natAbs : Int) = 0 := by omega
    rw [e, Int.zero_mul]
    by_cases h : x' * q - p * y' = 0
    · right; rw [h]; exact ⟨by simp, by omega⟩
    · left; exact Int.mul_pos (by omega) (by omega)⟩
end M

set_option maxHeartbeats 4000000
namespace M
open PySem L2 PyProof.Rows
structure Btw (a b c d x y : Int) : Prop where
  y1 : 1 ≤ y
  lo : a * y < x * b
  hi : x * d < c * y
structure Simp (a b c d w x y : Int) : Prop where
  btw : Btw a b c d x y
  best : ∀ x' y', Btw a b c d x' y' → y ≤ y' ∧ x - w * y ≤ x' - w * y'
theorem btw_up {a b c d w x y : Int} (hb : 1 ≤ b) (hw : w * b ≤ a) (h : Btw a b c d x y) : 1 ≤ x - w * y := by
  have hy := h.y1
  have i1 : w * b * y ≤ a * y := Int.mul_le_mul_of_nonneg_right hw (by omega)
  have e1 : w * b * y = w * y * b := by rw [Int.mul_assoc, Int.mul_comm b y, Int.mul_assoc]
  have i2 : w * y * b < x * b := by have := h.lo; omega
  have := mul_pos_lt i2 (by omega)
  omega
theorem btw_turn {a b c d w x y : Int} (hb : 1 ≤ b) (hw : w * b ≤ a) (h : Btw a b c d x y) : Btw d (c - w * d) b (a - w * b) y (x - w * y) := by
  refine ⟨btw_up hb hw h, ?_, ?_⟩
  · have := h.hi
    have e1 : d * (x - w * y) = x * d - w * d * y := by grind
    have e2 : y * (c - w * d) = c * y - w * d * y := by grind
    omega
  · have := h.lo
    have e1 : y * (a - w * b) = a * y - w * b * y := by grind
    have e2 : b * (x - w * y) = x * b - w * b * y := by grind
    omega
theorem btw_back {a b c d w t u : Int} (ht : 1 ≤ t) (h : Btw d (c - w * d) b (a - w * b) t u) : Btw a b c d (w * t + u) t := by
  refine ⟨ht, ?_, ?_⟩
  · have := h.hi
    have e1 : t * (a - w * b) = a * t - w * t * b := by grind
    have e2 : (w * t + u) * b = w * t * b + b * u := by grind
    omega
  · have := h.lo
    have e1 : t * (c - w * d) = c * t - w * t * d := by grind
    have e2 : (w * t + u) * d = w * t * d + d * u := by grind
    omega
theorem simp_step {a b c d w w' t u : Int} (hb : 1 ≤ b) (hd : 1 ≤ d) (hw : w * b ≤ a) (hw' : 0 ≤ w') (hc : 1 ≤ c - w * d) (h : Simp d (c - w * d) b (a - w * b) w' t u) : Simp a b c d w (w * t + u) t := by
  have hu := h.btw.y1
  have ht : 1 ≤ t := by
    have := h.btw.lo
    have i1 : 0 < d * u := Int.mul_pos (by omega) (by omega)
    by_cases z : 1 ≤ t
    · exact z
    · exfalso
      have : t * (c - w * d) ≤ 0 := Int.mul_nonpos_of_nonpos_of_nonneg (by omega) (by omega)
      omega
  refine ⟨btw_back ht h.btw, fun x' y' hx => ?_⟩
  obtain ⟨h1, h2⟩ := h.best _ _ (btw_turn hb hw hx)
  have i1 : w' * u ≤ w' * (x' - w * y') := Int.mul_le_mul_of_nonneg_left h1 hw'
  have e : w * t + u - w * t = u := by omega
  exact ⟨by omega, by omega⟩
theorem simp_cop {a b c d w x y : Int} (h : Simp a b c d w x y) : Int.gcd x y = 1 := by
  have hy := h.btw.y1
  have hg : 0 < Int.gcd x y := Int.gcd_pos_of_ne_zero_right x (by omega)
  obtain ⟨x1, hx1⟩ := Int.gcd_dvd_left x y
  obtain ⟨y1, hy1⟩ := Int.gcd_dvd_right x y
  have hG : ∃ g : Int, g = (Int.gcd x y : Int) := ⟨_, rfl⟩
  obtain ⟨g, hgg⟩ := hG
  rw [← hgg] at hx1 hy1
  have hg1 : 1 ≤ g := by omega
  have hy11 : 1 ≤ y1 := by
    by_cases z : 1 ≤ y1
    · exact z
    · exfalso
      have : g * y1 ≤ 0 := Int.mul_nonpos_of_nonneg_of_nonpos (by omega) (by omega)
      omega
  have hb1 : Btw a b c d x1 y1 := by
    refine ⟨hy11, ?_, ?_⟩
    · have := h.btw.lo
      have e1 : a * y = a * y1 * g := by rw [hy1]; grind
      have e2 : x * b = x1 * b * g := by rw [hx1]; grind
      exact mul_pos_lt (show a * y1 * g < x1 * b * g by omega) (by omega)
    · have := h.btw.hi
      have e1 : x * d = x1 * d * g := by rw [hx1]; grind
      have e2 : c * y = c * y1 * g := by rw [hy1]; grind
      exact mul_pos_lt (show x1 * d * g < c * y1 * g by omega) (by omega)
  have h1 := (h.best _ _ hb1).1
  have i1 : y1 * 1 ≤ y1 * g := Int.mul_le_mul_of_nonneg_left hg1 (by omega)
  have e3 : y = y1 * g := by rw [hy1, Int.mul_comm]
  have : g = 1 := by
    by_cases z : g = 1
    · exact z
    · exfalso
      have i2 : y1 * 2 ≤ y1 * g := Int.mul_le_mul_of_nonneg_left (by omega) (by omega)
      omega
  omega
def reW : List Int → Int × Int → Int × Int
  | [], p => p
  | w :: ws, p => let r := reW ws p; (w * r.1 + r.2, r.1)
theorem reW_snoc (w : Int) : ∀ (ws : List Int) (p : Int × Int), reW (ws ++ [w]) p = reW ws (w * p.1 + p.2, p.1)
  | [], _ => rfl
  | v :: ws, p => by rw [List.cons_append, reW, reW_snoc w ws, reW]
structure SpL (A B C D W0 : Int) (ws : List Int) (a b c d w : Int) : Prop where
  b1 : 1 ≤ b
  d0 : 0 ≤ d
  lt : a * d < c * b
  w1 : w * b ≤ a
  w2 : a < (w + 1) * b
  wp : ws ≠ [] → 1 ≤ w
  back : ∀ t u, Simp a b c d w t u → Simp A B C D W0 (reW ws (t, u)).1 (reW ws (t, u)).2
  hb : b * 2 ^ (ws.length / 2) ≤ 2 ^ 110
  hc : ws ≠ [] → c * 2 ^ ((ws.length - 1) / 2) ≤ 2 ^ 110
  dz : d ≤ 2 ^ 110
  wz : ∀ v ∈ ws, v.natAbs < 2 ^ 111
theorem two_pow_half {n : Nat} (h : 1 ≤ n) : (2 : Int) ^ ((n + 1) / 2) = 2 ^ ((n - 1) / 2) * 2 := by
  rw [show (n + 1) / 2 = (n - 1) / 2 + 1 by omega, Int.pow_succ]
theorem SpL.step {A B C D W0 a b c d w w' : Int} {ws : List Int} (S : SpL A B C D W0 ws a b c d w) (hin : c ≤ (w + 1) * d) (hws : w.natAbs < 2 ^ 111) (hw1' : w' * (c - w * d) ≤ d) (hw2' : d < (w' + 1) * (c - w * d)) :
    SpL A B C D W0 (ws ++ [w]) d (c - w * d) b (a - w * b) w' ∧ (c - w * d) + (a - w * b) < b + d := by
  have hb1 := S.b1
  have hd0 := S.d0
  have hd1 : 1 ≤ d := by
    by_cases z : 1 ≤ d
    · exact z
    · exfalso
      have e : d = 0 := by omega
      have h1 := S.lt
      rw [e, Int.mul_zero] at h1 hin
      have : c * b ≤ 0 := Int.mul_nonpos_of_nonpos_of_nonneg (by omega) (by omega)
      omega
  have e1 : (w + 1) * d = w * d + d := by rw [Int.add_mul, Int.one_mul]
  have e2 : (w + 1) * b = w * b + b := by rw [Int.add_mul, Int.one_mul]
  have hw1 := S.w1
  have hw2 := S.w2
  have hcd : 1 ≤ c - w * d := by
    -- w d b ≤ a d < c b
    have i1 : w * b * d ≤ a * d := Int.mul_le_mul_of_nonneg_right hw1 (by omega)
    have i2 : w * b * d = w * d * b := by rw [Int.mul_assoc, Int.mul_comm b d, Int.mul_assoc]
    have i3 : w * d * b < c * b := by have := S.lt; omega
    have := mul_pos_lt i3 (by omega)
    omega
  have hle : c - w * d ≤ d := by omega
  have hww : 1 ≤ w' := by
    by_cases z : 1 ≤ w'
    · exact z
    · exfalso
      have : (w' + 1) * (c - w * d) ≤ 1 * (c - w * d) := Int.mul_le_mul_of_nonneg_right (by omega) (by omega)
      omega
  refine ⟨⟨hcd, by omega, ?_, hw1', hw2', fun _ => hww, ?_, ?_, ?_, ?_, ?_⟩, by omega⟩
  · -- d (a - w b) < b (c - w d)
    have := S.lt
    have f1 : d * (a - w * b) = a * d - w * b * d := by grind
    have f2 : b * (c - w * d) = c * b - w * b * d := by grind
    omega
  · intro t u h
    rw [reW_snoc]
    exact S.back _ _ (simp_step hb1 hd1 hw1 (by omega) hcd h)
  · rw [List.length_append, List.length_singleton]
    by_cases hne : ws = []
    · subst hne
      show (c - w * d) * 2 ^ 0 ≤ 2 ^ 110
      have := S.dz
      omega
    · have hl : 1 ≤ ws.length := by cases ws with | nil => exact absurd rfl hne | cons _ _ => simp
      have hw := S.wp hne
      have hc := S.hc hne
      have i1 : 1 * d ≤ w * d := Int.mul_le_mul_of_nonneg_right hw (by omega)
      have i2 : (c - w * d) * 2 ≤ c := by omega
      rw [two_pow_half hl]
      have i3 : (c - w * d) * 2 * 2 ^ ((ws.length - 1) / 2) ≤ c * 2 ^ ((ws.length - 1) / 2) := Int.mul_le_mul_of_nonneg_right i2 (by have : (0 : Int) < 2 ^ ((ws.length - 1) / 2) := Int.pow_pos (by decide); omega)
      have e3 : (c - w * d) * (2 ^ ((ws.length - 1) / 2) * 2) = (c - w * d) * 2 * 2 ^ ((ws.length - 1) / 2) := by rw [Int.mul_comm (2 ^ _) 2, Int.mul_assoc]
      omega
  · intro _
    rw [List.length_append, List.length_singleton, Nat.add_sub_cancel]
    exact S.hb
  · have h1 := S.hb
    have : b * 1 ≤ b * 2 ^ (ws.length / 2) := Int.mul_le_mul_of_nonneg_left (by have : (0 : Int) < 2 ^ (ws.length / 2) := Int.pow_pos (by decide); omega) (by omega)
    omega
  · intro v hv
    rcases List.mem_append.mp hv with hv | hv
    · exact S.wz v hv
    · have : v = w := by simpa using hv
      subst this; exact hws
theorem SpL.few {A B C D W0 a b c d w : Int} {ws : List Int} (S : SpL A B C D W0 ws a b c d w) : ws.length ≤ 221 := by
  have h1 := S.hb
  have h2 := S.b1
  by_cases z : ws.length ≤ 221
  · exact z
  · exfalso
    have i1 : (2 : Int) ^ 111 ≤ 2 ^ (ws.length / 2) := by have := Nat.pow_le_pow_right (n := 2) (by decide) (show 111 ≤ ws.length / 2 by omega); exact_mod_cast this
    have i2 : 1 * 2 ^ (ws.length / 2) ≤ b * 2 ^ (ws.length / 2) := Int.mul_le_mul_of_nonneg_right h2 (by have : (0 : Int) < 2 ^ (ws.length / 2) := Int.pow_pos (by decide); omega)
    have e : (2 : Int) ^ 110 < 2 ^ 111 := by decide
    omega
theorem SpL.small {A B C D W0 a b c d w : Int} {ws : List Int} (S : SpL A B C D W0 ws a b c d w) : b ≤ 2 ^ 110 := by
  have h1 := S.hb
  have hb1 := S.b1
  have : b * 1 ≤ b * 2 ^ (ws.length / 2) := Int.mul_le_mul_of_nonneg_left (by have : (0 : Int) < 2 ^ (ws.length / 2) := Int.pow_pos (by decide); omega) (by omega)
  omega
theorem SpL.up {A B C D W0 a b c d w : Int} {ws : List Int} (S : SpL A B C D W0 ws a b c d w) : 1 ≤ c - w * d := by
  have hb1 := S.b1
  have i1 : w * b * d ≤ a * d := Int.mul_le_mul_of_nonneg_right S.w1 S.d0
  have i2 : w * b * d = w * d * b := by rw [Int.mul_assoc, Int.mul_comm b d, Int.mul_assoc]
  have i3 : w * d * b < c * b := by have := S.lt; omega
  have := mul_pos_lt i3 (by omega)
  omega
end M

set_option maxHeartbeats 4000000
namespace M
open PySem L2 PyProof.Rows
theorem Simp.unique {a b c d w x y x' y' : Int} (h : Simp a b c d w x y) (h' : Simp a b c d w x' y') : x = x' ∧ y = y' := by
  obtain ⟨i1, i2⟩ := h.best _ _ h'.btw
  obtain ⟨j1, j2⟩ := h'.best _ _ h.btw
  have e : y = y' := Int.le_antisymm i1 j1
  subst e
  exact ⟨by omega, rfl⟩
theorem Simp.one {a b c d w x : Int} (h : Simp a b c d w x 1) (hd : 0 ≤ d) : ¬ a < (x - 1) * b := fun hlt => by
  have hb : Btw a b c d (x - 1) 1 := ⟨by omega, by omega, by
    have := h.btw.hi
    have e : (x - 1) * d = x * d - d := by rw [Int.sub_mul, Int.one_mul]
    omega⟩
  have := (h.best _ _ hb).2
  omega
theorem Simp.left {a b c d w x y l m : Int} (h : Simp a b c d w x y) (hm : 1 ≤ m) (hmy : m < y) (hd : 0 ≤ d) (hdet : x * m - l * y = 1) : ¬ a * m < l * b := fun hlt => by
  have hb : Btw a b c d l m := ⟨hm, hlt, by
    -- l/m < x/y < c/d
    have h1 := h.btw.hi
    have hy := h.btw.y1
    have i1 : x * d * m < c * y * m := Int.mul_lt_mul_of_pos_right h1 (by omega)
    have e1 : l * y * d = x * d * m - d := by
      have : l * y = x * m - 1 := by omega
      rw [this, Int.sub_mul, Int.one_mul]
      have : x * m * d = x * d * m := by rw [Int.mul_assoc, Int.mul_comm m d, Int.mul_assoc]
      omega
    have e2 : l * y * d = l * d * y := by rw [Int.mul_assoc, Int.mul_comm y d, Int.mul_assoc]
    have e3 : c * y * m = c * m * y := by rw [Int.mul_assoc, Int.mul_comm y m, Int.mul_assoc]
    exact mul_pos_lt (show l * d * y < c * m * y by omega) (by omega)⟩
  have := (h.best _ _ hb).1
  omega
theorem Simp.right {a b c d w x y l m : Int} (h : Simp a b c d w x y) (hb0 : 0 ≤ b) (hm : 1 ≤ m) (hmy : m < y) (hdet : x * m - l * y = 1) : ¬ (x - l) * d < c * (y - m) := fun hlt => by
  have hb : Btw a b c d (x - l) (y - m) := ⟨by omega, by
    -- a/b < x/y < (x - l)/(y - m)
    have h1 := h.btw.lo
    have hy := h.btw.y1
    have i1 : a * y * (y - m) < x * b * (y - m) := Int.mul_lt_mul_of_pos_right h1 (by omega)
    have e1 : (x - l) * y = x * (y - m) + 1 := by
      rw [Int.sub_mul, Int.mul_sub]; omega
    have e2 : (x - l) * b * y = x * b * (y - m) + b := by
      have : (x - l) * b * y = (x - l) * y * b := by rw [Int.mul_assoc, Int.mul_comm b y, Int.mul_assoc]
      rw [this, e1, Int.add_mul, Int.one_mul]
      have : x * (y - m) * b = x * b * (y - m) := by rw [Int.mul_assoc, Int.mul_comm (y - m) b, Int.mul_assoc]
      omega
    have e3 : a * y * (y - m) = a * (y - m) * y := by rw [Int.mul_assoc, Int.mul_comm y (y - m), Int.mul_assoc]
    exact mul_pos_lt (show a * (y - m) * y < (x - l) * b * y by omega) (by omega), hlt⟩
  have := (h.best _ _ hb).1
  omega
theorem Simp.mid {A B C D w x y : Int} (h : Simp A B C D w x y) (hB : 1 ≤ B) (hD : 1 ≤ D) (hlt : A * D < C * B) : y ≤ B + D := by
  have hb : Btw A B C D (A + C) (B + D) := ⟨by omega, by rw [Int.mul_add, Int.add_mul]; omega, by rw [Int.mul_add, Int.add_mul]; omega⟩
  exact (h.best _ _ hb).1
theorem Simp.abs {A B C D w x y : Int} (h : Simp A B C D w x y) (hB : 1 ≤ B) (hD : 1 ≤ D) (hlt : A * D < C * B) (hA : A.natAbs ≤ 2000000000000000000000000) (hC : C.natAbs ≤ 2000000000000000000000000) (hB2 : B ≤ 1000000000000) (hD2 : D ≤ 1000000000000) : x.natAbs ≤ 4000000000000000000000000000000000000 ∧ y ≤ 2000000000000 := by
  have hy := h.btw.y1
  have hm := h.mid hB hD hlt
  refine ⟨?_, by omega⟩
  have i1 : C * y ≤ 2000000000000000000000000 * y := Int.mul_le_mul_of_nonneg_right (by omega) (by omega)
  have i2 : -2000000000000000000000000 * y ≤ A * y := Int.mul_le_mul_of_nonneg_right (by omega) (by omega)
  have hl := h.btw.lo
  have hh := h.btw.hi
  by_cases z : 0 ≤ x
  · have : x * 1 ≤ x * D := Int.mul_le_mul_of_nonneg_left hD z
    omega
  · have : -x * 1 ≤ -x * B := Int.mul_le_mul_of_nonneg_left hB (by omega)
    rw [Int.neg_mul, Int.neg_mul] at this
    omega
end M

set_option maxHeartbeats 4000000
namespace M
open PySem L2 PyProof.Rows
def cntL (bs : List Int) (i m : Nat) : Int := ((bs.drop i).take m).sum
theorem cnt_diff (bs : List Int) (i m : Nat) : cntL bs i m = (bs.take (i + m)).sum - (bs.take i).sum := by
  have e : bs.take (i + m) = bs.take i ++ (bs.drop i).take m := List.take_add
  unfold cntL
  rw [e, List.sum_append]
  omega
theorem cnt01 {bs : List Int} (h : ∀ b ∈ bs, b = 0 ∨ b = 1) (i m : Nat) : 0 ≤ cntL bs i m ∧ cntL bs i m ≤ m := by
  have h1 := sum01 (bs := (bs.drop i).take m) (fun b hb => h b (List.mem_of_mem_drop (List.mem_of_mem_take hb)))
  have h2 : ((bs.drop i).take m).length ≤ m := by rw [List.length_take]; omega
  unfold cntL
  omega
structure Spn (bs : List Int) (a b c d : Int) : Prop where
  b1 : 1 ≤ b
  d1 : 1 ≤ d
  bn : b ≤ bs.length
  dn : d ≤ bs.length
  ga : Int.gcd a b = 1
  gd : Int.gcd c d = 1
  lt : a * d < c * b
  lows : ∀ i m : Nat, 1 ≤ m → i + m ≤ bs.length → (cntL bs i m - 1) * b ≤ a * m
  low : ∃ i m : Nat, 1 ≤ m ∧ i + m ≤ bs.length ∧ (cntL bs i m - 1) * b = a * m
  highs : ∀ i m : Nat, 1 ≤ m → i + m ≤ bs.length → c * m ≤ (cntL bs i m + 1) * d
  high : ∃ i m : Nat, 1 ≤ m ∧ i + m ≤ bs.length ∧ (cntL bs i m + 1) * d = c * m
def NoSpan (bs : List Int) : Prop := ∃ i m j k : Nat, 1 ≤ m ∧ i + m ≤ bs.length ∧ 1 ≤ k ∧ j + k ≤ bs.length ∧ (cntL bs j k + 1) * m ≤ (cntL bs i m - 1) * k
theorem Spn.unique {bs : List Int} {a b c d a' b' c' d' : Int} (h : Spn bs a b c d) (h' : Spn bs a' b' c' d') : a = a' ∧ b = b' ∧ c = c' ∧ d = d' := by
  have key : ∀ {a b a' b' : Int}, 1 ≤ b → 1 ≤ b' → (∀ i m : Nat, 1 ≤ m → i + m ≤ bs.length → (cntL bs i m - 1) * b ≤ a * m) → (∃ i m : Nat, 1 ≤ m ∧ i + m ≤ bs.length ∧ (cntL bs i m - 1) * b' = a' * m) → a' * b ≤ a * b' := by
    intro a b a' b' hb hb' h1 ⟨i, m, m1, m2, e⟩
    have := h1 i m m1 m2
    exact cross_le (a := a') (b := b') (c := cntL bs i m - 1) (d := m) hb' (by omega) hb (by omega) this
  have key2 : ∀ {c d c' d' : Int}, 1 ≤ d → 1 ≤ d' → (∀ i m : Nat, 1 ≤ m → i + m ≤ bs.length → c * m ≤ (cntL bs i m + 1) * d) → (∃ i m : Nat, 1 ≤ m ∧ i + m ≤ bs.length ∧ (cntL bs i m + 1) * d' = c' * m) → c * d' ≤ c' * d := by
    intro c d c' d' hd hd' h1 ⟨i, m, m1, m2, e⟩
    have := h1 i m m1 m2
    exact cross_le (a := c) (b := d) (c := cntL bs i m + 1) (d := m) hd (by omega) hd' this (by omega)
  have e1 := Int.le_antisymm (key h.b1 h'.b1 h.lows h'.low) (key h'.b1 h.b1 h'.lows h.low)
  have e2 := Int.le_antisymm (key2 h.d1 h'.d1 h.highs h'.high) (key2 h'.d1 h.d1 h'.highs h.high)
  obtain ⟨q1, q2⟩ := cop_eq h.b1 h'.b1 h.ga h'.ga (by omega)
  obtain ⟨q3, q4⟩ := cop_eq h.d1 h'.d1 h.gd h'.gd (by omega)
  exact ⟨q1, q2, q3, q4⟩
def Even (bs : List Int) (t u : Int) : Prop := ∀ i m : Nat, 1 ≤ m → i + m ≤ bs.length → (cntL bs i m - 1) * u < t * m ∧ t * m < (cntL bs i m + 1) * u
theorem Spn.even {bs : List Int} {a b c d t u : Int} (h : Spn bs a b c d) (hu : 1 ≤ u) : Even bs t u ↔ a * u < t * b ∧ t * d < c * u := by
  have hb := h.b1
  have hd := h.d1
  constructor
  · intro he
    obtain ⟨i, m, m1, m2, e⟩ := h.low
    obtain ⟨j, k, k1, k2, e'⟩ := h.high
    exact ⟨cross_lt2 (c := cntL bs i m - 1) (d := (m : Int)) hb (by omega) hu (by omega) (he i m m1 m2).1, cross_lt1 (c := cntL bs j k + 1) (d := (k : Int)) hu (by omega) hd (he j k k1 k2).2 (by omega)⟩
  · rintro ⟨h1, h2⟩ i m m1 m2
    exact ⟨cross_lt2 (c := a) (d := b) (by omega) hb hu (h.lows i m m1 m2) h1, cross_lt1 (c := c) (d := d) hu hd (by omega) h2 (h.highs i m m1 m2)⟩
theorem NoSpan.even {bs : List Int} {t u : Int} (h : NoSpan bs) (hu : 1 ≤ u) : ¬ Even bs t u := by
  intro he
  obtain ⟨i, m, j, k, m1, m2, k1, k2, e⟩ := h
  have h1 := (he i m m1 m2).1
  have h2 := (he j k k1 k2).2
  have h3 : (cntL bs i m - 1) * k < (cntL bs j k + 1) * m := by
    have := cross_lt1 (a := cntL bs i m - 1) (b := (m : Int)) (c := t) (d := u) (e := cntL bs j k + 1) (f := (k : Int)) (by omega) hu (by omega) h1 (by omega)
    omega
  omega
theorem exL_take (t u : Int) : ∀ (bs : List Int) (k : Nat), k ≤ bs.length → ((exL t u bs).take k).sum = u * (bs.take k).sum - t * k
  | bs, 0, _ => by simp
  | [], k + 1, h => by simp at h
  | b :: bs, k + 1, h => by
    have ih := exL_take t u bs k (by simpa using h)
    have e : exL t u (b :: bs) = (u * b - t) :: exL t u bs := rfl
    rw [e, List.take_succ_cons, List.take_succ_cons, List.sum_cons, List.sum_cons, ih, Int.mul_add, show ((k + 1 : Nat) : Int) = k + 1 by omega, Int.mul_add]
    omega
theorem exL_len (t u : Int) (bs : List Int) : (exL t u bs).length = bs.length := by unfold exL; rw [List.length_map]
theorem runL_at {xs : List Int} {o y : Int} (h : y ∈ runL o xs) : ∃ k, k ≤ xs.length ∧ y = o + (xs.take k).sum := by
  obtain ⟨k, hk, e⟩ := List.mem_iff_getElem.mp h
  rw [runL_len] at hk
  have := runL_get xs o k (by omega)
  rw [List.getElem?_eq_getElem (by rw [runL_len]; exact hk), e] at this
  exact ⟨k, by omega, Option.some.inj this⟩
theorem starts_even {t u : Int} {bs : List Int} (ht : 0 ≤ t ∧ t ≤ u) (hu : 1 ≤ u) (h01 : ∀ b ∈ bs, b = 0 ∨ b = 1) : Starts t u bs ↔ Even bs t u := by
  constructor
  · rintro ⟨s, hs, e⟩ i m m1 m2
    have q1 := steady_sum (n := bs.length) (k := i + m) hs ht m2
    have q2 := steady_sum (n := bs.length) (k := i) hs ht (by omega)
    rw [e] at q1 q2
    rw [cnt_diff, q1, q2]
    have a1 := Int.mul_fdiv_add_fmod (s + ((i + m : Nat) : Int) * t) u
    have a2 := Int.mul_fdiv_add_fmod (s + (i : Int) * t) u
    have b1 := fmod_in (A := s + ((i + m : Nat) : Int) * t) (b := u) (by omega)
    have b2 := fmod_in (A := s + (i : Int) * t) (b := u) (by omega)
    have e1 : ((i + m : Nat) : Int) * t = (i : Int) * t + t * m := by rw [Int.natCast_add, Int.add_mul, Int.mul_comm (m : Int) t]
    generalize (s + ((i + m : Nat) : Int) * t).fdiv u = x at a1 ⊢
    generalize (s + (i : Int) * t).fdiv u = y at a2 ⊢
    have e2 : (x - y - 1) * u = u * x - u * y - u := by rw [Int.sub_mul, Int.sub_mul, Int.mul_comm x, Int.mul_comm y]; omega
    have e3 : (x - y + 1) * u = u * x - u * y + u := by rw [Int.add_mul, Int.sub_mul, Int.mul_comm x, Int.mul_comm y]; omega
    rw [e2, e3]
    omega
  · intro he
    obtain ⟨M, hM, hM'⟩ := max_of (xs := runL 0 (exL t u bs)) (by intro e; have := runL_mem (exL t u bs) 0; rw [e] at this; simp at this)
    obtain ⟨m, hm, hm'⟩ := min_of (xs := runL 0 (exL t u bs)) (by intro e; have := runL_mem (exL t u bs) 0; rw [e] at this; simp at this)
    obtain ⟨p, hp, ep⟩ := runL_at hM
    obtain ⟨q, hq, eq⟩ := runL_at hm
    rw [exL_len] at hp hq
    rw [exL_take t u bs p hp] at ep
    rw [exL_take t u bs q hq] at eq
    have z1 := hM' 0 (runL_mem _ _)
    have z2 := hm' 0 (runL_mem _ _)
    have hlt : M - m < u := by
      rcases Nat.lt_trichotomy q p with h | h | h
      · have := (he q (p - q) (by omega) (by omega)).1
        rw [cnt_diff, show q + (p - q) = p by omega, Int.sub_mul, Int.sub_mul, show ((p - q : Nat) : Int) = p - q by omega, Int.mul_sub, Int.mul_comm _ u, Int.mul_comm _ u] at this
        omega
      · subst h; omega
      · have := (he p (q - p) (by omega) (by omega)).2
        rw [cnt_diff, show p + (q - p) = q by omega, Int.add_mul, Int.sub_mul, show ((q - p : Nat) : Int) = q - p by omega, Int.mul_sub, Int.mul_comm _ u, Int.mul_comm _ u] at this
        omega
    exact ⟨M, ⟨by omega, by omega⟩, (some_start ht hu h01 hM hM' hm hm' M (by omega)).mpr (by omega)⟩
theorem Spn.starts {bs : List Int} {a b c d t u : Int} (h : Spn bs a b c d) (ht : 0 ≤ t ∧ t ≤ u) (hu : 1 ≤ u) (h01 : ∀ b ∈ bs, b = 0 ∨ b = 1) : Starts t u bs ↔ a * u < t * b ∧ t * d < c * u := (starts_even ht hu h01).trans (h.even hu)
theorem NoSpan.starts {bs : List Int} {t u : Int} (h : NoSpan bs) (ht : 0 ≤ t ∧ t ≤ u) (hu : 1 ≤ u) (h01 : ∀ b ∈ bs, b = 0 ∨ b = 1) : ¬ Starts t u bs := fun z => h.even hu ((starts_even ht hu h01).mp z)
theorem Spn.ends {bs : List Int} {a b c d : Int} (h : Spn bs a b c d) (h01 : ∀ b ∈ bs, b = 0 ∨ b = 1) : -b ≤ a ∧ a < b ∧ 0 < c ∧ c ≤ 2 * d := by
  have hb := h.b1
  have hd := h.d1
  obtain ⟨i, m, m1, m2, e⟩ := h.low
  obtain ⟨j, k, k1, k2, e'⟩ := h.high
  have q1 := cnt01 h01 i m
  have q2 := cnt01 h01 j k
  have r1 : a < b := by
    refine Int.lt_of_not_ge fun z => ?_
    have s1 : b * m ≤ a * m := Int.mul_le_mul_of_nonneg_right z (by omega)
    have s2 : (cntL bs i m - 1) * b < (m : Int) * b := Int.mul_lt_mul_of_pos_right (by omega) (by omega)
    rw [Int.mul_comm b] at s1
    omega
  have r2 : 0 < c := by
    refine Int.lt_of_not_ge fun z => ?_
    have s1 : c * (k : Int) ≤ 0 := Int.mul_nonpos_of_nonpos_of_nonneg z (by omega)
    have s2 : 0 < (cntL bs j k + 1) * d := Int.mul_pos (by omega) (by omega)
    omega
  have r3 : c ≤ 2 * d := by
    refine Int.le_of_not_gt fun z => ?_
    have s1 : (2 * d) * (k : Int) < c * (k : Int) := Int.mul_lt_mul_of_pos_right z (by omega)
    have s2 : (cntL bs j k + 1) * d ≤ ((k : Int) + 1) * d := Int.mul_le_mul_of_nonneg_right (by omega) (by omega)
    have s3 : ((k : Int) + 1) * d ≤ (2 * (k : Int)) * d := Int.mul_le_mul_of_nonneg_right (by omega) (by omega)
    rw [Int.mul_assoc, Int.mul_comm d, ← Int.mul_assoc] at s1
    omega
  have r4 : -b ≤ a := by
    refine Int.le_of_not_gt fun z => ?_
    have s1 : a * (m : Int) < -b * (m : Int) := Int.mul_lt_mul_of_pos_right z (by omega)
    have s2 : -1 * b ≤ (cntL bs i m - 1) * b := Int.mul_le_mul_of_nonneg_right (by omega) (by omega)
    have s3 : b * 1 ≤ b * (m : Int) := Int.mul_le_mul_of_nonneg_left (by omega) (by omega)
    rw [Int.neg_mul] at s1
    omega
  exact ⟨r4, r1, r2, r3⟩
structure Ps (H : Hp) (l : Addr) (rs : List Addr) (ps : List (Int × Int)) : Prop where
  lst : H l = some (.lst (rs.map V.ref))
  parts : Parts H rs ps
  some : ps ≠ []
  few : ps.length ≤ 1000
  small : ∀ p ∈ ps, 1 ≤ p.2 ∧ bits p.1 ≤ 9000 ∧ bits p.2 ≤ 9000
def SpanT (H : Hp) (bs : List Int) (v : V) (H' : Hp) : Prop := (NoSpan bs ∧ v = .non) ∨ ∃ q l h a b c d, v = .ref q ∧ H q = none ∧ H' q = some (.tup [.ref l, .ref h]) ∧ H' l = some (.tup [.int a, .int b]) ∧ H' h = some (.tup [.int c, .int d]) ∧ Spn bs a b c d
end M

set_option maxHeartbeats 4000000
namespace M
open PySem L2 PyProof.Rows
end M
namespace M
open PySem L2
end M
namespace M
open PySem L2
def SpanH (H : Hp) (bs : List Int) (v : V) : Prop := (NoSpan bs ∧ v = .non) ∨ ∃ q l h a b c d, v = .ref q ∧ H q = some (.tup [.ref l, .ref h]) ∧ H l = some (.tup [.int a, .int b]) ∧ H h = some (.tup [.int c, .int d]) ∧ Spn bs a b c d
theorem SpanT.h {H H' : Hp} {bs : List Int} {v : V} (x : SpanT H bs v H') : SpanH H' bs v := by
  rcases x with x | ⟨q, l, h, a, b, c, d, e, _, e1, e2, e3, e4⟩
  · exact .inl x
  · exact .inr ⟨q, l, h, a, b, c, d, e, e1, e2, e3, e4⟩
theorem SpanH.kp {H H' : Hp} {bs : List Int} {v : V} (x : SpanH H bs v) (k : Kp [] H H') : SpanH H' bs v := by
  rcases x with x | ⟨q, l, h, a, b, c, d, e, e1, e2, e3, e4⟩
  · exact .inl x
  · exact .inr ⟨q, l, h, a, b, c, d, e, k q _ (by simp) e1, k l _ (by simp) e2, k h _ (by simp) e3, e4⟩
end M

set_option maxHeartbeats 4000000
namespace M
open PySem L2 PyProof.Rows
section
variable {X : Cx} {pos : Pos}
def gLstO : Option HO → Nat → (List V → Prop) → Prop
  | some (.lst xs), n, R => xs.length = n ∧ R xs
  | _, _, _ => False
def gLstX (n : Nat) (t : TGs) : TG := fun v σ H Q => match v with
  | .ref a => gLstO (H a) n fun xs => t xs σ H Q
  | _ => False
theorem e_gLst {t : TGs} {s : L2.St} {D : L2.St → Hp → Prop} {H : Hp} {a : Addr} {n : Nat} : gLstX n t (.ref a) s H D = gLstO (H a) n fun xs => t xs s H D := rfl
theorem e_gLstO {xs : List V} {n : Nat} {R : List V → Prop} : gLstO (some (.lst xs)) n R = (xs.length = n ∧ R xs) := rfl
end
end M

set_option maxHeartbeats 4000000
namespace M
open PySem L2 PyProof.Rows
section
variable {X : Cx}
end
def revT (z : Str) : Str := ⟨z.cps.toList.reverse.toArray⟩
def rRvY : V → V → Hp → VK → Prop := fun x k H Q => match x, k with
  | .str z, .int (.negSucc 0) => z.length ≤ sizeLine ∧ Q (.str (revT z)) H
  | .ref p, .int (.negSucc 0) => slO (H p) fun xs => ∀ q, H q = none → Q (.ref q) (upd H q (.lst xs.reverse))
  | _, _ => False
def tRvY (te tk : TE) : TE := fun σ H Q => te σ H fun x H1 => tk σ H1 fun k H2 => rRvY x k H2 Q
theorem e_rvY_s {z : Str} {H : Hp} {Q : VK} : rRvY (.str z) (.int (-1)) H Q = (z.length ≤ sizeLine ∧ Q (.str (revT z)) H) := rfl
theorem e_rvY_r {p : Addr} {H : Hp} {Q : VK} : rRvY (.ref p) (.int (-1)) H Q = slO (H p) fun xs => ∀ q, H q = none → Q (.ref q) (upd H q (.lst xs.reverse)) := rfl
end M

set_option maxHeartbeats 4000000
namespace M
open PySem L2 PyProof.Rows
structure LowOf (bs : List Int) (S : Nat → Nat → Prop) (a b : Int) : Prop where
  b1 : 1 ≤ b
  bn : b ≤ 1000
  all : ∀ i m, S i m → (cntL bs i m - 1) * b ≤ a * m
  one : (a = -2 ∧ b = 1) ∨ ∃ i m, S i m ∧ a = cntL bs i m - 1 ∧ b = m
structure HighOf (bs : List Int) (S : Nat → Nat → Prop) (c d : Int) : Prop where
  d1 : 1 ≤ d
  dn : d ≤ 1000
  all : ∀ i m, S i m → c * m ≤ (cntL bs i m + 1) * d
  one : (c = 3 ∧ d = 1) ∨ ∃ i m, S i m ∧ c = cntL bs i m + 1 ∧ d = m
theorem LowOf.start {bs : List Int} {S : Nat → Nat → Prop} (h : ∀ i m, ¬ S i m) : LowOf bs S (-2) 1 := ⟨by decide, by decide, fun i m z => (h i m z).elim, .inl ⟨rfl, rfl⟩⟩
theorem HighOf.start {bs : List Int} {S : Nat → Nat → Prop} (h : ∀ i m, ¬ S i m) : HighOf bs S 3 1 := ⟨by decide, by decide, fun i m z => (h i m z).elim, .inl ⟨rfl, rfl⟩⟩
theorem LowOf.up {bs : List Int} {S : Nat → Nat → Prop} {a b : Int} (h : LowOf bs S a b) {i m : Nat} (hm : 1 ≤ m) (hm2 : m ≤ 1000) (hlt : a * m < (cntL bs i m - 1) * b) : LowOf bs (fun i' m' => S i' m' ∨ (i' = i ∧ m' = m)) (cntL bs i m - 1) m := by
  have hb := h.b1
  refine ⟨by omega, by omega, fun i' m' z => ?_, .inr ⟨i, m, .inr ⟨rfl, rfl⟩, rfl, rfl⟩⟩
  rcases z with z | ⟨rfl, rfl⟩
  · have := h.all i' m' z
    by_cases h0 : (m' : Int) = 0
    · rw [h0] at this ⊢
      rw [Int.mul_zero] at this ⊢
      have h1 : cntL bs i' m' - 1 ≤ 0 := by
        refine Int.le_of_not_gt fun w => ?_
        have := Int.mul_pos w (show 0 < b by omega)
        omega
      exact Int.mul_nonpos_of_nonpos_of_nonneg h1 (by omega)
    · exact cross_le (a := cntL bs i' m' - 1) (b := (m' : Int)) (c := a) (d := b) (by omega) hb (by omega) this (by omega)
  · exact Int.le_refl _
theorem LowOf.stay {bs : List Int} {S : Nat → Nat → Prop} {a b : Int} (h : LowOf bs S a b) {i m : Nat} (hlt : ¬ a * m < (cntL bs i m - 1) * b) : LowOf bs (fun i' m' => S i' m' ∨ (i' = i ∧ m' = m)) a b := by
  refine ⟨h.b1, h.bn, fun i' m' z => ?_, h.one.imp id fun ⟨i, m, z, q⟩ => ⟨i, m, .inl z, q⟩⟩
  rcases z with z | ⟨rfl, rfl⟩
  · exact h.all i' m' z
  · omega
theorem HighOf.up {bs : List Int} {S : Nat → Nat → Prop} {c d : Int} (h : HighOf bs S c d) {i m : Nat} (hm : 1 ≤ m) (hm2 : m ≤ 1000) (hlt : (cntL bs i m + 1) * d < c * m) : HighOf bs (fun i' m' => S i' m' ∨ (i' = i ∧ m' = m)) (cntL bs i m + 1) m := by
  have hd := h.d1
  refine ⟨by omega, by omega, fun i' m' z => ?_, .inr ⟨i, m, .inr ⟨rfl, rfl⟩, rfl, rfl⟩⟩
  rcases z with z | ⟨rfl, rfl⟩
  · have := h.all i' m' z
    by_cases h0 : (m' : Int) = 0
    · rw [h0] at this ⊢
      rw [Int.mul_zero] at this ⊢
      have h1 : 0 ≤ cntL bs i' m' + 1 := by
        refine Int.le_of_not_gt fun w => ?_
        have := Int.mul_neg_of_neg_of_pos w (show 0 < d by omega)
        omega
      exact Int.mul_nonneg h1 (by omega)
    · exact cross_le (a := cntL bs i m + 1) (b := (m : Int)) (c := c) (d := d) (e := cntL bs i' m' + 1) (f := (m' : Int)) (by omega) hd (by omega) (by omega) this
  · exact Int.le_refl _
theorem HighOf.stay {bs : List Int} {S : Nat → Nat → Prop} {c d : Int} (h : HighOf bs S c d) {i m : Nat} (hlt : ¬ (cntL bs i m + 1) * d < c * m) : HighOf bs (fun i' m' => S i' m' ∨ (i' = i ∧ m' = m)) c d := by
  refine ⟨h.d1, h.dn, fun i' m' z => ?_, h.one.imp id fun ⟨i, m, z, q⟩ => ⟨i, m, .inl z, q⟩⟩
  rcases z with z | ⟨rfl, rfl⟩
  · exact h.all i' m' z
  · omega
theorem cnt_flip {bs : List Int} {i m : Nat} (h : i + m ≤ bs.length) : cntL (flipL bs) i m = m - cntL bs i m := by
  unfold cntL flipL
  rw [← List.map_drop, ← List.map_take]
  have := flip_sum ((bs.drop i).take m)
  unfold flipL at this
  rw [this, List.length_take, List.length_drop, Nat.min_eq_left (by omega)]
theorem gcd_rest {a b : Int} : Int.gcd (b - a) b = Int.gcd a b := by
  have := Int.gcd_self_sub_left (m := b) (n := a)
  simpa using this
theorem Spn.flip {bs : List Int} {a b c d : Int} (h : Spn bs a b c d) : Spn (flipL bs) (d - c) d (b - a) b := by
  have hl := flip_len bs
  refine ⟨h.d1, h.b1, by have := h.dn; omega, by have := h.bn; omega, by rw [gcd_rest]; exact h.gd, by rw [gcd_rest]; exact h.ga, ?_, fun i m m1 m2 => ?_, ?_, fun i m m1 m2 => ?_, ?_⟩
  · have := h.lt
    rw [Int.sub_mul, Int.sub_mul, Int.mul_comm b d]
    omega
  · rw [hl] at m2
    rw [cnt_flip m2]
    have := h.highs i m m1 m2
    have e1 : ((m : Int) - cntL bs i m - 1) * d = (m : Int) * d - (cntL bs i m + 1) * d := by rw [← Int.sub_mul]; congr 1; omega
    rw [e1, Int.sub_mul, Int.mul_comm d]
    omega
  · obtain ⟨i, m, m1, m2, e⟩ := h.high
    refine ⟨i, m, m1, by omega, ?_⟩
    rw [cnt_flip m2]
    have e1 : ((m : Int) - cntL bs i m - 1) * d = (m : Int) * d - (cntL bs i m + 1) * d := by rw [← Int.sub_mul]; congr 1; omega
    rw [e1, Int.sub_mul, Int.mul_comm d]
    omega
  · rw [hl] at m2
    rw [cnt_flip m2]
    have := h.lows i m m1 m2
    have e1 : ((m : Int) - cntL bs i m + 1) * b = (m : Int) * b - (cntL bs i m - 1) * b := by rw [← Int.sub_mul]; congr 1; omega
    rw [e1, Int.sub_mul, Int.mul_comm b]
    omega
  · obtain ⟨i, m, m1, m2, e⟩ := h.low
    refine ⟨i, m, m1, by omega, ?_⟩
    rw [cnt_flip m2]
    have e1 : ((m : Int) - cntL bs i m + 1) * b = (m : Int) * b - (cntL bs i m - 1) * b := by rw [← Int.sub_mul]; congr 1; omega
    rw [e1, e, Int.sub_mul, Int.mul_comm b]
theorem NoSpan.flip {bs : List Int} (h : NoSpan bs) : NoSpan (flipL bs) := by
  obtain ⟨i, m, j, k, m1, m2, k1, k2, e⟩ := h
  have hl := flip_len bs
  refine ⟨j, k, i, m, k1, by omega, m1, by omega, ?_⟩
  rw [cnt_flip m2, cnt_flip k2]
  have e1 : ((m : Int) - cntL bs i m + 1) * k = (m : Int) * k - (cntL bs i m - 1) * k := by rw [← Int.sub_mul]; congr 1; omega
  have e2 : ((k : Int) - cntL bs j k - 1) * m = (k : Int) * m - (cntL bs j k + 1) * m := by rw [← Int.sub_mul]; congr 1; omega
  rw [e1, e2, Int.mul_comm (m : Int) k]
  omega
end M

set_option maxHeartbeats 4000000
namespace M
open PySem L2 PyProof.Rows
structure Fits (most : Int) (bs : List Int) (t u : Int) : Prop where
  u1 : 1 ≤ u
  um : u ≤ most
  t0 : 0 ≤ t
  tu : t ≤ u
  cop : Int.gcd t u = 1
  st : Starts t u bs
theorem Fits.even {most : Int} {bs : List Int} {t u : Int} (h : Fits most bs t u) (h01 : ∀ b ∈ bs, b = 0 ∨ b = 1) : Even bs t u := (starts_even ⟨h.t0, h.tu⟩ h.u1 h01).mp h.st
structure IsRead (bs : List Int) (x y : Int) : Prop where
  y1 : 1 ≤ y
  x0 : 0 ≤ x
  xy : x ≤ y
  cop : Int.gcd x y = 1
  st : Starts x y bs
  least : ∀ t u : Int, 0 ≤ t → t ≤ u → 1 ≤ u → Starts t u bs → y ≤ u
theorem Simp.read {bs : List Int} {a b c d w x y : Int} (S : Spn bs a b c d) (h01 : ∀ b ∈ bs, b = 0 ∨ b = 1) (h1 : w * b ≤ a) (h2 : a < (w + 1) * b) (h : Simp a b c d w x y) : IsRead bs x y := by
  have hb := S.b1
  have hd := S.d1
  obtain ⟨e1, e2, e3, e4⟩ := S.ends h01
  have hy := h.btw.y1
  have hlo := h.btw.lo
  have hhi := h.btw.hi
  have hw1 : -1 ≤ w := by
    refine Int.le_of_not_gt fun z => ?_
    have : (w + 1) * b ≤ -1 * b := Int.mul_le_mul_of_nonneg_right (by omega) (by omega)
    omega
  have hw0 : w ≤ 0 := by
    refine Int.le_of_not_gt fun z => ?_
    have : 1 * b ≤ w * b := Int.mul_le_mul_of_nonneg_right (by omega) (by omega)
    omega
  have hx0 : 0 ≤ x := by
    refine Int.le_of_not_gt fun z => ?_
    -- nought lies between
    have ha : a < 0 := by
      refine Int.lt_of_not_ge fun z2 => ?_
      have := Int.mul_nonneg z2 (show 0 ≤ y by omega)
      have := Int.mul_neg_of_neg_of_pos z (show 0 < b by omega)
      omega
    have hB : Btw a b c d 0 1 := ⟨by decide, by omega, by omega⟩
    have hy1 : y = 1 := by have := (h.best 0 1 hB).1; omega
    subst hy1
    have : x * b ≤ -1 * b := Int.mul_le_mul_of_nonneg_right (by omega) (by omega)
    omega
  have hxy : x ≤ y := by
    refine Int.le_of_not_gt fun z => ?_
    have hc : d < c := by
      refine Int.lt_of_not_ge fun z2 => ?_
      have s1 : c * y ≤ d * y := Int.mul_le_mul_of_nonneg_right z2 (by omega)
      have s2 : y * d < x * d := Int.mul_lt_mul_of_pos_right z (by omega)
      rw [Int.mul_comm d y] at s1
      omega
    have hB : Btw a b c d 1 1 := ⟨by decide, by omega, by omega⟩
    obtain ⟨b1, b2⟩ := h.best 1 1 hB
    have hy1 : y = 1 := by omega
    subst hy1
    omega
  refine ⟨hy, hx0, hxy, simp_cop h, (S.starts ⟨hx0, hxy⟩ hy h01).mpr ⟨hlo, hhi⟩, fun t u t0 tu u1 hs => ?_⟩
  obtain ⟨q1, q2⟩ := (S.starts ⟨t0, tu⟩ u1 h01).mp hs
  exact (h.best t u ⟨u1, q1, q2⟩).1
theorem cnt_add (bs : List Int) (i m n : Nat) : cntL bs i (m + n) = cntL bs i m + cntL bs (i + m) n := by
  rw [cnt_diff, cnt_diff, cnt_diff, Nat.add_assoc]; omega
theorem two_windows {bs : List Int} : ∀ (k N p q : Nat) (P Q : Int), p + q ≤ k → 1 ≤ p → 1 ≤ q → p + q ≤ N + 1 → (∀ i, i + p ≤ N → cntL bs i p = P) → (∀ i, i + q ≤ N → cntL bs i q = Q) → P * q = Q * p
  | 0, _, p, q, _, _, hk, hp, _, _, _, _ => by omega
  | k + 1, N, p, q, P, Q, hk, hp, hq, hN, h1, h2 => by
    rcases Nat.lt_trichotomy p q with h | h | h
    · have ih := two_windows k (N - p) p (q - p) P (Q - P) (by omega) hp (by omega) (by omega) (fun i hi => h1 i (by omega)) (fun i hi => by
        have a := h2 i (by omega)
        have b := h1 (i + (q - p)) (by omega)
        have c := cnt_add bs i (q - p) p
        rw [show q - p + p = q by omega] at c
        omega)
      rw [show ((q - p : Nat) : Int) = q - p by omega, Int.mul_sub, Int.sub_mul] at ih
      omega
    · subst h
      have a := h1 0 (by omega)
      have b := h2 0 (by omega)
      rw [← a, b]
    · have ih := two_windows k (N - q) (p - q) q (P - Q) Q (by omega) (by omega) hq (by omega) (fun i hi => by
        have a := h1 i (by omega)
        have b := h2 (i + (p - q)) (by omega)
        have c := cnt_add bs i (p - q) q
        rw [show p - q + q = p by omega] at c
        omega) (fun i hi => h2 i (by omega))
      rw [show ((p - q : Nat) : Int) = p - q by omega, Int.mul_sub, Int.sub_mul] at ih
      omega
theorem Even.window {bs : List Int} {t u : Int} (h : Even bs t u) (hu : 1 ≤ u) {i : Nat} (hi : i + u.toNat ≤ bs.length) : cntL bs i u.toNat = t := by
  obtain ⟨a, b⟩ := h i u.toNat (by omega) hi
  rw [show ((u.toNat : Nat) : Int) = u by omega] at a b
  have a' := mul_pos_lt a (by omega)
  have b' := mul_pos_lt b (by omega)
  omega
theorem two_shares {most t u t' u' : Int} {bs : List Int} (h01 : ∀ b ∈ bs, b = 0 ∨ b = 1) (hn : 2 * most - 2 ≤ bs.length) (h1 : 1 ≤ bs.length) (F : Fits most bs t u) (F' : Fits most bs t' u') : t = t' ∧ u = u' := by
  have E := F.even h01
  have E' := F'.even h01
  have u1 := F.u1
  have u1' := F'.u1
  have um := F.um
  have um' := F'.um
  by_cases hu : u = u'
  · subst hu
    have a := E.window u1 (i := 0) (by omega)
    have b := E'.window u1 (i := 0) (by omega)
    exact ⟨by omega, rfl⟩
  · have e := two_windows (bs := bs) (u.toNat + u'.toNat) bs.length u.toNat u'.toNat t t' (Nat.le_refl _) (by omega) (by omega) (by omega) (fun i hi => E.window u1 hi) (fun i hi => E'.window u1' hi)
    rw [show ((u.toNat : Nat) : Int) = u by omega, show ((u'.toNat : Nat) : Int) = u' by omega] at e
    exact cop_eq u1 u1' F.cop F'.cop e
theorem cnt_part (bs : List Int) (j L i m : Nat) (h : i + m ≤ L) : cntL ((bs.drop j).take L) i m = cntL bs (j + i) m := by
  unfold cntL
  rw [List.drop_take, List.drop_drop, List.take_take, Nat.min_eq_left (by omega)]
theorem Even.part {bs : List Int} {t u : Int} (h : Even bs t u) (j L : Nat) : Even ((bs.drop j).take L) t u := fun i m m1 m2 => by
  rw [List.length_take, List.length_drop] at m2
  rw [cnt_part bs j L i m (by omega)]
  exact h (j + i) m m1 (by omega)
theorem Fits.part {most t u : Int} {bs : List Int} (h : Fits most bs t u) (h01 : ∀ b ∈ bs, b = 0 ∨ b = 1) (j L : Nat) : Fits most ((bs.drop j).take L) t u :=
  ⟨h.u1, h.um, h.t0, h.tu, h.cop, (starts_even ⟨h.t0, h.tu⟩ h.u1 (take01 (drop01 h01))).mpr ((h.even h01).part j L)⟩
end M

set_option maxHeartbeats 4000000
namespace M
open PySem L2 PyProof.Rows
theorem IsRead.none {bs : List Int} {x y most : Int} (h : IsRead bs x y) (hm : ¬ y ≤ most) (t u : Int) : ¬ Fits most bs t u := fun F => by
  have := h.least t u F.t0 F.tu F.u1 F.st
  have := F.um
  omega
theorem NoSpan.none {bs : List Int} {most : Int} (h : NoSpan bs) (h01 : ∀ b ∈ bs, b = 0 ∨ b = 1) (t u : Int) : ¬ Fits most bs t u := fun F => h.starts ⟨F.t0, F.tu⟩ F.u1 h01 F.st
end M

set_option maxHeartbeats 4000000
namespace M
open PySem L2 PyProof.Rows
inductive Mend where
  | right (t u : Int)
  | turned (p : Nat) (t u : Int)
  | none
def IsMend (most : Int) (bs : List Int) : Mend → Prop
  | .right t u => Fits most bs t u
  | .turned p t u => (∀ t u, ¬ Fits most bs t u) ∧ p < bs.length ∧ Fits most (turnL [(p : Int)] bs) t u ∧ ∀ p' : Nat, p' < p → ∀ t u, ¬ Fits most (turnL [(p' : Int)] bs) t u
  | .none => (∀ t u, ¬ Fits most bs t u) ∧ ∀ p : Nat, p < bs.length → ∀ t u, ¬ Fits most (turnL [(p : Int)] bs) t u
def MendH (H : Hp) : Mend → V → Prop
  | .right t u, v => ∃ q r, v = .ref q ∧ H q = some (.tup [.str "right", .ref r]) ∧ H r = some (.tup [.int t, .int u])
  | .turned p t u, v => ∃ q r, v = .ref q ∧ H q = some (.tup [.str "turned", .int p, .ref r]) ∧ H r = some (.tup [.int t, .int u])
  | .none, v => ∃ q, v = .ref q ∧ H q = some (.tup [.str "none"])
theorem MendH.kp {H H' : Hp} (k : Kp [] H H') : ∀ {m : Mend} {v : V}, MendH H m v → MendH H' m v
  | .right _ _, _, ⟨q, r, e, h1, h2⟩ => ⟨q, r, e, k q _ (by simp) h1, k r _ (by simp) h2⟩
  | .turned _ _ _, _, ⟨q, r, e, h1, h2⟩ => ⟨q, r, e, k q _ (by simp) h1, k r _ (by simp) h2⟩
  | .none, _, ⟨q, e, h1⟩ => ⟨q, e, k q _ (by simp) h1⟩
theorem IsMend.unique {most : Int} {bs : List Int} {m m' : Mend} (h01 : ∀ b ∈ bs, b = 0 ∨ b = 1) (h3 : 3 ≤ bs.length) (h6 : 6 * most - 4 ≤ bs.length) (h : IsMend most bs m) (h' : IsMend most bs m') : m = m' := by
  have big : ∀ {t u : Int} {cs : List Int}, Fits most cs t u → cs.length = bs.length → 2 * most - 2 ≤ cs.length := fun F e => by
    have := F.u1; have := F.um; omega
  match m, m', h, h' with
  | .right t u, .right t' u', h, h' => obtain ⟨rfl, rfl⟩ := two_shares h01 (big h rfl) (by omega) h h'; rfl
  | .right t u, .turned p t' u', h, h' => exact absurd h (h'.1 _ _)
  | .right t u, .none, h, h' => exact absurd h (h'.1 _ _)
  | .turned p t u, .right t' u', h, h' => exact absurd h' (h.1 _ _)
  | .turned p t u, .turned p' t' u', h, h' =>
    have hp : p = p' := by
      rcases Nat.lt_trichotomy p p' with q | q | q
      · exact absurd h.2.2.1 (h'.2.2.2 p q _ _)
      · exact q
      · exact absurd h'.2.2.1 (h.2.2.2 p' q _ _)
    subst hp
    obtain ⟨rfl, rfl⟩ := two_shares (turnL01 h01) (big h.2.2.1 (turnL_len _ _)) (by rw [turnL_len]; omega) h.2.2.1 h'.2.2.1
    rfl
  | .turned p t u, .none, h, h' => exact absurd h.2.2.1 (h'.2 p h.2.1 _ _)
  | .none, .right t' u', h, h' => exact absurd h' (h.1 _ _)
  | .none, .turned p t u, h, h' => exact absurd h'.2.2.1 (h.2 p h'.2.1 _ _)
  | .none, .none, _, _ => rfl
end M

set_option maxHeartbeats 4000000
namespace M
open PySem L2 PyProof.Rows
def stpM : V → List V → Hp → VK → Prop := fun x xs H Q => match x, xs with
  | .str a, [.str b] => a.length ≤ sizeLine ∧ Q (.str (Txt.stripChars a b)) H
  | _, _ => False
theorem e_stp {a b : Str} {H : Hp} {Q : VK} : stpM (.str a) [.str b] H Q = (a.length ≤ sizeLine ∧ Q (.str (Txt.stripChars a b)) H) := rfl
end M
namespace L2
open PySem PyProof.Rows
section
variable {X : Cx} {a b c d : Expr} {ta tb tc td : TE} {pos : Pos}
end
end L2
namespace M
open PySem L2 PyProof.Rows
def PairT (H : Hp) (bs : List Int) (most : Int) (q : Addr) : Prop :=
  ((bs.length < 1 ∨ (bs.length : Int) < 2 * most - 2) ∧ H q = some (.tup [.non, .bl true])) ∨
  (¬ (bs.length < 1 ∨ (bs.length : Int) < 2 * most - 2) ∧ (((∀ t u, ¬ Fits most bs t u) ∧ H q = some (.tup [.non, .non])) ∨ ∃ t u r, Fits most bs t u ∧ H q = some (.tup [.ref r, .non]) ∧ H r = some (.tup [.int t, .int u])))
theorem PairT.kp {H H' : Hp} {bs : List Int} {most : Int} {q : Addr} (h : PairT H bs most q) (k : Kp [] H H') : PairT H' bs most q := by
  rcases h with ⟨a, b⟩ | ⟨a, ⟨b, c⟩ | ⟨t, u, r, b, c, d⟩⟩
  · exact .inl ⟨a, k q _ (by simp) b⟩
  · exact .inr ⟨a, .inl ⟨b, k q _ (by simp) c⟩⟩
  · exact .inr ⟨a, .inr ⟨t, u, r, b, k q _ (by simp) c, k r _ (by simp) d⟩⟩
end M

set_option maxHeartbeats 4000000
namespace M
open PySem L2 PyProof.Rows
section
variable {P : Program} {w : World} {K : PySem.W.Frag} {mg : Str → Option Value} {base : Heap}
structure FnM (K : PySem.W.Frag) (C : Addr) (x qual : Str) (st : Stmt) (ps : List Str) : Prop where
  ex : ∃ f fd, Fun K x qual st f fd ∧ Meth K C x f ∧ Binds K fd ps []
structure CalM (P : Program) (w : World) (K : PySem.W.Frag) (mg : Str → Option Value) (base : Heap) (C : Addr) (x : Str) (k : Nat) (ps : List Str) (sp : Sp) : Prop where
  ex : ∃ f fd, FnOk P w K mg base CX0 k f fd ps sp ∧ Meth K C x f ∧ Binds K fd ps []
theorem FnM.cal {C : Addr} {x qual : Str} {st : Stmt} {N ps : List Str} {k : Nat} {sp : Sp} (F : FnM K C x qual st ps) (S : FnScope N ps (defScope st)) (len : ∀ vs H Q E, sp vs H Q E → vs.length = ps.length)
    (hbody : ∀ (f : Addr) (cdv : Value) (A : Around) (outer : List Env) (s : Shared) (H : Hp) (vs : List V) (Q : VK) (E : XK), Room k (A.deeper (envOfC qual (defScope st) s.heap.objs.size f cdv)) → sp vs H Q E →
      ∃ t, PSs (cxOf CX0 P w K mg base N qual (defScope st) f cdv A outer s H E).nox (defBody st) t ∧ t { nx := fun _ H' => Told H Q .non H', rt := Told H Q } (start N vs) H) : CalM P w K mg base C x (k + 1) ps sp := by
  obtain ⟨f, fd, F, hm, hb⟩ := F.ex
  have kp := F.kp
  obtain ⟨oc, od, kV, doc, pm, an, cdv, ct, osl, rfl, lk, hcd⟩ := F.ex
  refine ⟨f, _, fn_ofF lk hcd S len fun A outer s H vs Q E hr hsp => ?_, hm, hb⟩
  obtain ⟨t, h, q⟩ := hbody f cdv A outer s H vs Q E hr hsp
  exact ⟨t, h.nox, q⟩
structure OwnC (K : PySem.W.Frag) (mg : Str → Option Value) (y : Str) (C : Addr) (fs : List Str) : Prop where
  at_ : mg y = some (.ref C)
  cl : Cls K C
  makes : PySem.W.makesIn K C = true
  kp : PySem.W.keepIn K (.ref C) = true
  na : ∀ f ∈ fs, NoAttr K C f
end
section
variable {X : Cx} {x m : Str} {k : Nat} {ps : List Str} {sp : Sp} {C : Addr} {p pos apos : Pos} {o e : Expr} {es : List Expr} {t : TA} {ta te : TE} {f : Str}
end
structure Dr (H0 H1 H2 : Hp) : Prop where
  sub : ∀ a o, H2 a = some o → H1 a = some o
  entry : ∀ a, H0 a ≠ none → H2 a = H1 a
  kinds : ∀ a o, H2 a = some o → plO o = true ∨ (∃ x, o = .own x) ∨ ∃ C dx fs, o = .ins C dx fs ∧ H2 dx = some (.own a)
theorem ObjOk.pl {P : Program} {w : World} {H1 H2 : Hp} {h : Heap} {a : Addr} : ∀ {o : HO}, plO o = true → ObjOk P w H1 h a o → ObjOk P w H2 h a o
  | .lst _, _, x => x
  | .tup _, _, x => x
  | .dK _, _, x => x
  | .dT _, h, _ => by cases h
  | .set _ _, _, x => x
  | .ins _ _ _, h, _ => by cases h
  | .own _, h, _ => by cases h
  | .xd _, h, _ => by cases h
  | .rng _ _, h, _ => by cases h
  | .frz _ u, h, x => by obtain ⟨h1, h2⟩ := x; exact ⟨h1, ObjOk.pl (o := u) h h2⟩
  | .tbl _, _, x => x
  | .met _ _, h, _ => by cases h
  | .ext _, _, x => x
theorem Dr.none {H0 H1 H2 : Hp} (d : Dr H0 H1 H2) {b : Addr} (h : H1 b = none) : H2 b = none := by
  cases e : H2 b with
  | none => rfl
  | some o => rw [d.sub b o e] at h; cases h
def wo (ds : List Addr) (H : Hp) : Hp := fun a => if a ∈ ds then none else H a
theorem wo_ne {ds : List Addr} {H : Hp} {a : Addr} (h : a ∉ ds) : wo ds H a = H a := by unfold wo; rw [if_neg h]
theorem wo_some {ds : List Addr} {H : Hp} {a : Addr} {o : HO} (h : wo ds H a = some o) : a ∉ ds ∧ H a = some o := by
  unfold wo at h
  split at h
  · cases h
  · exact ⟨by assumption, h⟩
theorem dr_wo {H0 H1 : Hp} {ds : List Addr} (he : ∀ a ∈ ds, H0 a = none) (hp : ∀ a o, a ∉ ds → H1 a = some o → plO o = true) : Dr H0 H1 (wo ds H1) ∧ Pl (wo ds H1) := by
  have pl : Pl (wo ds H1) := fun a o e => let ⟨n, e'⟩ := wo_some e; hp a o n e'
  exact ⟨⟨fun a o e => (wo_some e).2, fun a h => wo_ne fun m => h (he a m), fun a o e => .inl (pl a o e)⟩, pl⟩
structure MkH (H : Hp) (C x dx l : Addr) (below start e : Int) (rs : List Addr) : Prop where
  ins : H x = some (.ins C dx [("below", .int below), ("start", .int start), ("now", .int e), ("steps", .ref l)])
  own : H dx = some (.own x)
  lst : H l = some (.lst (rs.map V.ref))
def spPut (C : Addr) : Sp := fun vs H Q _ => match vs with
  | [.ref x, .int top] => ∃ dx l below start e rs, MkH H C x dx l below start e rs ∧ 0 ≤ top ∧ top ≤ below ∧ rs.length ≤ 1000 ∧ ∀ q H', MkH H' C x dx l below start (stE below e top) (rs ++ [q]) → Kp [x, l] H H' → (∀ a o, a ∉ [x, dx, l] → H' a = some o → H a = some o ∨ plO o = true) → Q (.int (stB below e top)) H'
  | _ => False
theorem put_ok {C x dx l : Addr} {below start e top : Int} {rs : List Addr} {H : Hp} {Q : VK} {E : XK} (m : MkH H C x dx l below start e rs) (h0 : 0 ≤ top) (h1 : top ≤ below) (hl : rs.length ≤ 1000) (k : ∀ q H', MkH H' C x dx l below start (stE below e top) (rs ++ [q]) → Kp [x, l] H H' → (∀ a o, a ∉ [x, dx, l] → H' a = some o → H a = some o ∨ plO o = true) → Q (.int (stB below e top)) H') : spPut C [.ref x, .int top] H Q E := ⟨dx, l, below, start, e, rs, m, h0, h1, hl, k⟩
end M

set_option maxHeartbeats 4000000
namespace M
open PySem L2 PyProof.Rows
theorem ne_ints {K : PySem.W.Frag} {H : Hp} {a b : Addr} {ns ms : List Int} {Q : VK} (h1 : H a = some (.lst (ns.map V.int))) (h2 : H b = some (.lst (ms.map V.int))) (k : Q (.bl (!decide (ns = ms))) H) : rNeX K (.ref a) (.ref b) H Q := by
  refine e_ne_rr (Dp.ints h1) (Dp.ints h2) (Sh.list (n := 0) Sh.ints) (Sh.list (n := 0) Sh.ints) (by decide) (by decide) ?_
  rw [eqv_ll, eqv_ints]; exact k
end M
namespace M
open PySem L2 PyProof.Rows
structure MkS (H0 H : Hp) (C x dx l : Addr) (u st e : Int) (n : Nat) : Prop where
  ex : ∃ rs : List Addr, rs.length = n ∧ MkH H C x dx l u st e rs
  kp : Kp [] H0 H
  pl : ∀ a o, a ∉ [x, dx, l] → H a = some o → plO o = true
  nx : H0 x = none
  nd : H0 dx = none
  nl : H0 l = none
theorem MkS.init {H H' : Hp} {C x dx l : Addr} {u st e : Int} (p : Pl H) (hx : H x = none) (hdx : H dx = none) (hne : dx ≠ x) (hl : upd (upd H dx (.own x)) x (.ins C dx []) l = none) (m : MkH H' C x dx l u st e []) (k : Kp [x, dx, l] (upd (upd H dx (.own x)) x (.ins C dx [])) H')
    (o : ∀ a o, a ∉ [x, dx, l] → H' a = some o → upd (upd H dx (.own x)) x (.ins C dx []) a = some o ∨ plO o = true) : MkS H H' C x dx l u st e 0 := by
  have hlx : l ≠ x := fun z => by rw [z, upd_same] at hl; cases hl
  have hl2 : l ≠ dx := fun z => by rw [upd_ne hlx, z, upd_same] at hl; cases hl
  have hl0 : H l = none := by rw [upd_ne hlx, upd_ne hl2] at hl; exact hl
  refine ⟨⟨[], rfl, m⟩, fun a u _ z => ?_, fun a u ha z => ?_, hx, hdx, hl0⟩
  · have h1 : a ≠ x := ne_of_none z hx
    have h2 : a ≠ dx := ne_of_none z hdx
    have h3 : a ≠ l := ne_of_none z hl0
    exact k a u (by simp [h1, h2, h3]) (by rw [upd_ne h1, upd_ne h2]; exact z)
  · have ha' := ha
    simp at ha
    rcases o a u ha' z with q | q
    · rw [upd_ne ha.1, upd_ne ha.2.1] at q; exact p a u q
    · exact q
theorem MkS.put {H0 H : Hp} {C x dx l : Addr} {u st e t : Int} {n : Nat} {Q : VK} {E : XK} (s : MkS H0 H C x dx l u st e n) (h0 : 0 ≤ t) (h1 : t ≤ u) (hn : n ≤ 1000) (k : ∀ H', MkS H0 H' C x dx l u st (stE u e t) (n + 1) → Kp [x, l] H H' → Q (.int (stB u e t)) H') : spPut C [.ref x, .int t] H Q E := by
  obtain ⟨⟨rs, hr, m⟩, kp, pl, nx, nd, nl⟩ := s
  refine put_ok m h0 h1 (by omega) fun q H' m' k' o' => k H' ⟨⟨_, by rw [List.length_append, hr]; rfl, m'⟩, fun a o _ z => ?_, fun a o ha z => ?_, nx, nd, nl⟩ k'
  · exact k' a o (by simp [ne_of_none z nx, ne_of_none z nl]) (kp a o (by simp) z)
  · rcases o' a o ha z with r | r
    · exact pl a o ha r
    · exact r
theorem MkS.upd {H0 H : Hp} {C x dx l D : Addr} {u st e : Int} {n : Nat} {o : HO} (s : MkS H0 H C x dx l u st e n) (h0 : H0 D = none) (hx : D ≠ x) (hd : D ≠ dx) (hl : D ≠ l) (ho : plO o = true) : MkS H0 (L2.upd H D o) C x dx l u st e n := by
  obtain ⟨⟨rs, hr, ⟨m1, m2, m3⟩⟩, kp, pl, nx, nd, nl⟩ := s
  refine ⟨⟨rs, hr, ⟨by rw [upd_ne hx.symm]; exact m1, by rw [upd_ne hd.symm]; exact m2, by rw [upd_ne hl.symm]; exact m3⟩⟩, kp.upd (.inr h0), fun a v ha z => ?_, nx, nd, nl⟩
  by_cases e : a = D
  · subst e; rw [upd_same] at z; cases z; exact ho
  · rw [upd_ne e] at z; exact pl a v ha z
theorem MkS.drop {H H0 H1 : Hp} {C x dx l b c : Addr} {u st e T : Int} {n : Nat} (s : MkS H0 H1 C x dx l u st e n) (k : Kp [] H H0) (xb : Box H0 b c T) : ∃ H2, Dr H H1 H2 ∧ Pl H2 ∧ Kp [] H0 H2 ∧ Kp [] H H2 ∧ Box H2 b c T ∧ ∀ a o, H1 a = some o → a ∉ [x, dx, l] → H2 a = some o := by
  obtain ⟨d, pl⟩ := dr_wo (H0 := H) (H1 := H1) (ds := [x, dx, l]) (fun a ha => by
    simp at ha
    rcases ha with rfl | rfl | rfl
    · exact k.none s.nx (by simp)
    · exact k.none s.nd (by simp)
    · exact k.none s.nl (by simp)) s.pl
  have k2 : Kp [] H0 (wo [x, dx, l] H1) := fun a o _ z => by
    rw [wo_ne (by simp [ne_of_none z s.nx, ne_of_none z s.nd, ne_of_none z s.nl])]
    exact s.kp a o (by simp) z
  exact ⟨_, d, pl, k2, k.trans k2, xb.kp k2, fun a o z ha => by rw [wo_ne ha]; exact z⟩
end M
namespace M
open PySem L2 PyProof.Rows
theorem MkS.ne {H0 H : Hp} {C x dx l D : Addr} {u st e : Int} {n : Nat} (s : MkS H0 H C x dx l u st e n) (h : H D = none) : H0 D = none ∧ D ≠ x ∧ D ≠ dx ∧ D ≠ l := by
  obtain ⟨rs, _, m⟩ := s.ex
  exact ⟨s.kp.none h (by simp), fun z => (by rw [z, m.ins] at h; cases h), fun z => (by rw [z, m.own] at h; cases h), fun z => (by rw [z, m.lst] at h; cases h)⟩
end M

set_option maxHeartbeats 4000000
namespace M
open PySem PySem.Spec PySem.W PyProof.Rows L2
structure GenC (X : Cx) (c P : Addr) : Prop where
  code : X.env.code = .ref c
  hd : CodeHd X.base c P
  bt : X.base.BuiltinsAt X.mg P
def TbOk (pos : Pos) (ps : Array Value) : Prop := ps = #[] ∨ ∃ c' : Addr, ps = #[rawInt pos.line, rawInt pos.col, .ref c']
theorem Inv.table {X : Cx} {pins : List (Addr × Obj)} {σ : List (Option V)} {H : Hp} {s : Shared} {h' : Heap} {tk : Tok} {P : Addr} {ps more : Array Value} (I : L2.Inv X pins σ H s) (hP : H P = some (.tbl ps)) (hx : Heap.ExtBut P s.heap h') (hn : h'.get? P = some (tabObj (ps ++ more))) :
    L2.Inv X pins σ (upd H P (.tbl (ps ++ more))) { s with heap := h', toks := tk } := by
  have tP : s.heap.get? P = some (tabObj ps) := I.hok P _ hP
  have hne : ∀ b, H b = none → b ≠ P := fun b e z => by rw [z, hP] at e; cases e
  refine I.step (g' := s.gens) (d' := s.drawn) (ch := []) (fun _ z => nomatch z) (fun b o _ _ _ e n => hx b o (hne b n) e) (fun b o _ _ _ e n => ⟨o.slots, hx b o (hne b n) e⟩) (fun b o _ e n => by rw [upd_ne (hne b n)]; exact n)
    (fun b o _ e => ?_) (fun b xs e => ?_) (fun b o u e => ?_) (fun b qs e => ?_) (fun m hm => ?_) (fun b o e => ?_) I.bare
  · by_cases z : b = P
    · subst z; exact ⟨_, hn⟩
    · exact ⟨o, hx b o z e⟩
  · rw [upd_ne (fun z => by rw [z, hP] at e; cases e)]; exact e
  · rw [upd_ne (fun z => by rw [z, hP] at e; cases e)]; exact e
  · by_cases z : b = P
    · subst z; rw [hP] at e; cases e; exact ⟨more, upd_same⟩
    · exact ⟨#[], by rw [upd_ne z, e]; simp⟩
  · exact hm.extBut hx (hne _ I.free)
  · by_cases z : b = P
    · subst z; rw [upd_same] at e; cases e; exact hn
    · rw [upd_ne z] at e
      refine (I.hok b o e).stay (fun c v hc q => hx c v ?_ q) (fun c q => by rw [upd_ne (fun w => by rw [w, hP] at q; cases q)]; exact q) fun c xs q => by rw [upd_ne (fun w => by rw [w, hP] at q; cases q)]; exact q
      rcases hc with rfl | w
      · exact z
      · rintro rfl; rw [hP] at w; cases w
theorem all_range {l : List Nat} (el : Nat → Bool) : ((List.range l.length).all fun j => ((l[j]?).map el).getD false) = l.all el := by
  rw [Bool.eq_iff_iff, List.all_eq_true, List.all_eq_true]
  constructor
  · intro h x hx
    obtain ⟨j, hj⟩ := List.getElem?_of_mem hx
    have := h j (List.mem_range.mpr (List.getElem?_eq_some_iff.mp hj).1)
    rw [hj] at this
    exact this
  · intro h j hj
    have hl := List.mem_range.mp hj
    rw [List.getElem?_eq_getElem hl]
    exact h _ (List.getElem_mem hl)
end M

set_option maxHeartbeats 4000000
namespace M
open PySem PySem.Spec PySem.W PyProof.Rows L2
end M

set_option maxHeartbeats 4000000
namespace M
open PySem PySem.Spec PySem.W PyProof.Rows L2
structure FnG (K : PySem.W.Frag) (mg : Str → Option Value) (x : Str) (st : Stmt) (ps : List Str) (c : Addr) : Prop where
  ex : ∃ (f : Addr) (oc : Value) (od an : Option Addr) (kV doc pm ct : Value) (osl : Array (Option Value)), K.lookup f = some ⟨oc, od, .func (PySem.W.fnOf x x (defArgs st) (defBody st) (defScope st) .none kV doc pm an (.ref c) ct), osl⟩ ∧
    PySem.W.codeIn K (.ref c) x = true ∧ PySem.W.keepIn K (.ref f) = true ∧ mg x = some (.ref f) ∧ Binds K (PySem.W.fnOf x x (defArgs st) (defBody st) (defScope st) .none kV doc pm an (.ref c) ct) ps []
section
variable {P : Program} {w : World} {K : PySem.W.Frag} {mg : Str → Option Value} {base : Heap}
theorem FnG.cal {x : Str} {st : Stmt} {N ps : List Str} {k : Nat} {sp : Sp} {c : Addr} (F : FnG K mg x st ps c) (S : FnScope N ps (defScope st)) (len : ∀ vs H Q E, sp vs H Q E → vs.length = ps.length)
    (hbody : ∀ (f : Addr) (A : Around) (outer : List Env) (s : Shared) (H : Hp) (vs : List V) (Q : VK) (E : XK), Room k (A.deeper (envOfC x (defScope st) s.heap.objs.size f (.ref c))) → sp vs H Q E →
      ∃ t, PSs (cxOf CX0 P w K mg base N x (defScope st) f (.ref c) A outer s H E).nox (defBody st) t ∧ t { nx := fun _ H' => Told H Q .non H', rt := Told H Q } (start N vs) H) : Cal P w K mg base x (k + 1) ps sp := by
  obtain ⟨f, oc, od, an, kV, doc, pm, ct, osl, lk, hcd, kp, hm, hb⟩ := F.ex
  refine ⟨f, _, fn_ofF lk hcd S len fun A outer s H vs Q E hr hsp => ?_, hm, kp, hb⟩
  obtain ⟨t, h, q⟩ := hbody f A outer s H vs Q E hr hsp
  exact ⟨t, h.nox, q⟩
end
end M

set_option maxHeartbeats 4000000
namespace M
open PySem PySem.Spec PySem.W PyProof.Rows L2
end M

set_option maxHeartbeats 4000000
namespace M
open PySem PySem.Spec PySem.W PyProof.Rows L2
end M

set_option maxHeartbeats 4000000
namespace M
open PySem PySem.Spec PySem.W PyProof.Rows L2
end M

set_option maxHeartbeats 4000000
namespace M
open PySem PySem.Spec PySem.W PyProof.Rows L2
def TbAt (gp : Pos) (Pt : Addr) (H : Hp) : Prop := ∃ ps, H Pt = some (.tbl ps) ∧ TbOk gp ps
theorem sum_bound {many : Int} : ∀ {ns : List Int}, (∀ n ∈ ns, 0 ≤ n ∧ n ≤ many) → 0 ≤ ns.sum ∧ ns.sum ≤ many * ns.length
  | [], _ => by simp
  | n :: ns, h => by
    have ih := sum_bound (ns := ns) fun x hx => h x (by simp [hx])
    have hn := h n (by simp)
    rw [List.sum_cons, List.length_cons, Int.natCast_succ, Int.mul_add]
    omega
structure RwH (H : Hp) (rs : List Addr) (f : Nat → List Int) : Prop where
  at_ : ∀ (i : Nat) (a : Addr), rs[i]? = some a → H a = some (.lst ((f i).map fun b => V.str (Str.ofString (toString b))))
  inj : ∀ (i j : Nat) (a : Addr), rs[i]? = some a → rs[j]? = some a → i = j
theorem RwH.kp {H H' : Hp} {rs : List Addr} {f : Nat → List Int} (h : RwH H rs f) (k : Kp [] H H') : RwH H' rs f := ⟨fun i a e => k a _ (by simp) (h.at_ i a e), h.inj⟩
theorem RwH.put {H : Hp} {rs : List Addr} {f g : Nat → List Int} {i : Nat} {a : Addr} (h : RwH H rs f) (ha : rs[i]? = some a) (hg : ∀ j, j ≠ i → g j = f j) : RwH (upd H a (.lst ((g i).map fun b => V.str (Str.ofString (toString b))))) rs g := ⟨fun j b e => by
  by_cases hb : b = a
  · subst hb
    have := h.inj j i b e ha
    subst this
    exact upd_same
  · rw [upd_ne hb]
    have hj : j ≠ i := fun z => by subst z; rw [ha] at e; cases e; exact hb rfl
    rw [hg j hj]; exact h.at_ j b e, h.inj⟩
theorem RwH.snoc {H : Hp} {rs : List Addr} {f : Nat → List Int} {a : Addr} (h : RwH H rs f) (ha : H a = none) (hf : f rs.length = []) : RwH (upd H a (.lst [])) (rs ++ [a]) f := by
  have hn : ∀ (i : Nat) (b : Addr), rs[i]? = some b → b ≠ a := fun i b e z => by have := h.at_ i b e; rw [z, ha] at this; cases this
  refine ⟨fun i b e => ?_, fun i j b e e' => ?_⟩
  · by_cases hi : i < rs.length
    · rw [List.getElem?_append_left hi] at e
      rw [upd_ne (hn i b e)]; exact h.at_ i b e
    · rw [List.getElem?_append_right (by omega)] at e
      have hi2 : i = rs.length := by
        have := (List.getElem?_eq_some_iff.mp e).1
        simp at this; omega
      subst hi2
      simp at e
      subst e
      rw [upd_same, hf]; rfl
  · by_cases hi : i < rs.length
    · by_cases hj : j < rs.length
      · rw [List.getElem?_append_left hi] at e
        rw [List.getElem?_append_left hj] at e'
        exact h.inj i j b e e'
      · rw [List.getElem?_append_left hi] at e
        rw [List.getElem?_append_right (by omega)] at e'
        have hj2 : j = rs.length := by
          have := (List.getElem?_eq_some_iff.mp e').1
          simp at this; omega
        subst hj2
        simp at e'
        exact absurd e'.symm (hn i b e)
    · by_cases hj : j < rs.length
      · rw [List.getElem?_append_left hj] at e'
        rw [List.getElem?_append_right (by omega)] at e
        have hi2 : i = rs.length := by
          have := (List.getElem?_eq_some_iff.mp e).1
          simp at this; omega
        subst hi2
        simp at e
        exact absurd e.symm (hn j b e')
      · have h1 := (List.getElem?_eq_some_iff.mp e).1
        have h2 := (List.getElem?_eq_some_iff.mp e').1
        rw [List.length_append] at h1 h2
        simp at h1 h2
        omega
theorem RwH.congr {H : Hp} {rs : List Addr} {f g : Nat → List Int} (h : RwH H rs f) (hg : ∀ i, i < rs.length → g i = f i) : RwH H rs g := ⟨fun i a e => by rw [hg i (List.getElem?_eq_some_iff.mp e).1]; exact h.at_ i a e, h.inj⟩
end M

set_option maxHeartbeats 4000000
namespace M
open PySem PySem.Spec PySem.W PyProof.Rows L2
theorem Dp.stay {K : PySem.W.Frag} {H H' : Hp} (k : Kp [] H H') {v : V} {d : PyData} (h : Dp K H v d) : Dp K H' v d :=
  Dp.kp k (fun a xs h => by
    rcases h with h | h
    · rcases h with h | ⟨o, h⟩
      · exact .inl (.inl (k _ _ (by simp) h))
      · exact .inl (.inr ⟨o, k _ _ (by simp) h⟩)
    · exact .inr h) (fun a xs h => by
    rcases h with h | h
    · rcases h with h | ⟨o, h⟩
      · exact .inl (.inl (k _ _ (by simp) h))
      · exact .inl (.inr ⟨o, k _ _ (by simp) h⟩)
    · exact .inr h) h
def A0 (H : Hp) (th : Addr) (c : Nat) : Prop := ∃ (l wl : Addr) (u : Int) (bss : List (List Int)) (ws : List Int), H th = some (.tup [.ref l, .ref wl, .int u]) ∧ H l = some (.lst (rowsV bss)) ∧ H wl = some (.lst (ws.map V.int)) ∧ Bits bss ∧ bss.length = 2 ∧ ws.length = 2 ∧ (∀ bs ∈ bss, bs.length ≤ 20) ∧ (∀ w ∈ ws, 0 ≤ w ∧ w ≤ 100) ∧ 1 ≤ u ∧ u ≤ 1000 ∧ ((¬ OneL bss ∧ c = 1) ∨ (OneL bss ∧ ws.sum > u ∧ c = 2) ∨ (OneL bss ∧ ¬ ws.sum > u ∧ c = 0))
def A1 (H : Hp) (th : Addr) (c : Nat) : Prop := ∃ (wv tp : Addr) (bs ts : List Int), H th = some (.tup [.str (rowS bs), .ref wv]) ∧ H wv = some (.tup [.int 1, .ref tp]) ∧ H tp = some (.lst (ts.map V.int)) ∧ (∀ b ∈ bs, b = 0 ∨ b = 1) ∧ bs.length ≤ 20 ∧ ts.length ≤ 20 ∧ (∀ t ∈ ts, 0 ≤ t ∧ t ≤ 1) ∧ ((bs.length ≠ ts.length ∧ c = 1) ∨ (bs.length = ts.length ∧ bs.length = 0 ∧ c = 3) ∨ (bs.length = ts.length ∧ bs.length ≠ 0 ∧ c = 0))
def A2 (H : Hp) (th : Addr) (c : Nat) : Prop := ∃ (l : Addr) (most : Int) (bss : List (List Int)), H th = some (.tup [.ref l, .int most]) ∧ H l = some (.lst (rowsV bss)) ∧ Bits bss ∧ bss.length = 2 ∧ (∀ bs ∈ bss, bs.length ≤ 20) ∧ 1 ≤ most ∧ most ≤ 60 ∧ ((¬ OneL bss ∧ c = 1) ∨ (OneL bss ∧ headLen bss = 0 ∧ most = 60 ∧ c = 2) ∨ (OneL bss ∧ headLen bss = 0 ∧ most = 1 ∧ c = 3) ∨ (OneL bss ∧ 1 ≤ headLen bss ∧ most = 1 ∧ c = 0))
def A3 (H : Hp) (th : Addr) (c : Nat) : Prop := ∃ (l : Addr) (most n : Int) (bs : List Int), H th = some (.tup [.str (rowS bs), .ref l, .int most]) ∧ H l = some (.lst [.int n]) ∧ (∀ b ∈ bs, b = 0 ∨ b = 1) ∧ 1 ≤ bs.length ∧ bs.length ≤ 20 ∧ 1 ≤ n ∧ n ≤ 20 ∧ 1 ≤ most ∧ most ≤ 60 ∧ (((bs.length : Int) < n ∧ c = 3) ∨ (n = 1 ∧ most = 60 ∧ c = 2) ∨ (n ≤ bs.length ∧ most = 1 ∧ c = 0))
def A4 (H : Hp) (th : Addr) (c : Nat) : Prop := ∃ (sh : Addr) (t u : Int) (bs : List Int), H th = some (.tup [.str (rowS bs), .int 3, .ref sh]) ∧ H sh = some (.tup [.int t, .int u]) ∧ (∀ b ∈ bs, b = 0 ∨ b = 1) ∧ bs.length ≤ 40 ∧ 0 ≤ t ∧ t ≤ u ∧ 1 ≤ u ∧ u ≤ 10 ∧ ((¬ Starts t u bs ∧ c = 4) ∨ (Starts t u bs ∧ c = 0))
def Case95 (H : Hp) (w : Int) (th : Addr) (c : Nat) : Prop := (w = 0 ∧ A0 H th c) ∨ (w = 1 ∧ A1 H th c) ∨ (w = 2 ∧ A2 H th c) ∨ (w = 3 ∧ A3 H th c) ∨ (w = 4 ∧ A4 H th c)
theorem Case95.kp {H H' : Hp} {w : Int} {th : Addr} {c : Nat} (k : Kp [] H H') (h : Case95 H w th c) : Case95 H' w th c := by
  have k := fun a o => k a o (by simp)
  rcases h with ⟨e, l, wl, u, bss, ws, h1, h2, h3, r⟩ | ⟨e, wv, tp, bs, ts, h1, h2, h3, r⟩ | ⟨e, l, most, bss, h1, h2, r⟩ | ⟨e, l, most, n, bs, h1, h2, r⟩ | ⟨e, sh, t, u, bs, h1, h2, r⟩
  · exact .inl ⟨e, l, wl, u, bss, ws, k _ _ h1, k _ _ h2, k _ _ h3, r⟩
  · exact .inr (.inl ⟨e, wv, tp, bs, ts, k _ _ h1, k _ _ h2, k _ _ h3, r⟩)
  · exact .inr (.inr (.inl ⟨e, l, most, bss, k _ _ h1, k _ _ h2, r⟩))
  · exact .inr (.inr (.inr (.inl ⟨e, l, most, n, bs, k _ _ h1, k _ _ h2, r⟩)))
  · exact .inr (.inr (.inr (.inr ⟨e, sh, t, u, bs, k _ _ h1, k _ _ h2, r⟩)))
theorem rowS_small {bs : List Int} (h : ∀ b ∈ bs, b = 0 ∨ b = 1) : ∀ c ∈ (rowS bs).cps.toList, c < 1114112 := fun c hc => by
  obtain ⟨i, hi⟩ := List.getElem?_of_mem hc
  have hi' : (rowS bs).cps[i]? = some c := by simpa using hi
  obtain ⟨b, hb, hb1, e⟩ := row_sign h hi'
  rcases hb1 with rfl | rfl
  · have : (⟨#[c]⟩ : Str) = Str.ofString "0" := e
    have e2 : (⟨#[c]⟩ : Str).cps = #[48] := by rw [this]; decide
    simp at e2
    omega
  · have : (⟨#[c]⟩ : Str) = Str.ofString "1" := e
    have e2 : (⟨#[c]⟩ : Str).cps = #[49] := by rw [this]; decide
    simp at e2
    omega
theorem Sw.row {n : Nat} {bs : List Int} (h : ∀ b ∈ bs, b = 0 ∨ b = 1) (hl : bs.length ≤ 40) : Sw n 402 (.str (rowS bs)) := (Sw.str (rowS_small h)).mono (Nat.le_refl _) (by rw [row_size h]; omega)
theorem Sw.rows {n : Nat} {bss : List (List Int)} (h : ∀ bs ∈ bss, ∀ b ∈ bs, b = 0 ∨ b = 1) (hl : ∀ bs ∈ bss, bs.length ≤ 40) : ∀ d ∈ bss.map (fun bs => PyData.str (rowS bs)), Sw n 402 d := fun d hd => by
  obtain ⟨bs, hb, rfl⟩ := List.mem_map.mp hd
  exact Sw.row (h bs hb) (hl bs hb)
theorem Case95.dp {K : PySem.W.Frag} {H : Hp} {w : Int} {th : Addr} {c : Nat} (h : Case95 H w th c) : ∃ d, Dp K H (.ref th) d ∧ Sw 40 16000000 d := by
  have si : ∀ {n : Nat} {i : Int}, -100000 ≤ i → i ≤ 100000 → Sw n 13 (.int i) := fun h1 h2 => Sw.int (by omega)
  rcases h with ⟨e, l, wl, u, bss, ws, h1, h2, h3, hB, n1, n2, hb, hw, u1, u2, r⟩ | ⟨e, wv, tp, bs, ts, h1, h2, h3, h01, n1, n2, ht, r⟩ | ⟨e, l, most, bss, h1, h2, hB, n1, hb, m1, m2, r⟩ | ⟨e, l, most, n, bs, h1, h2, h01, n1, n2, n3, n4, m1, m2, r⟩ | ⟨e, sh, t, u, bs, h1, h2, h01, n1, t1, t2, u1, u2, r⟩
  · refine ⟨_, .tup (SqT.of h1) (.cons (Dp.rows h2) (.cons (Dp.ints h3) (.cons (.int u) .nil))), (Sw.tuple (n := 38) (w := 2000) fun d hd => ?_).mono (by omega) (by simp)⟩
    simp only [List.mem_cons, List.not_mem_nil, or_false] at hd
    rcases hd with rfl | rfl | rfl
    · exact (Sw.list (Sw.rows hB.b01 fun bs h => Nat.le_trans (hb bs h) (by omega))).mono (m := 38) (n := 38) (by omega) (by rw [List.length_map, n1]; omega)
    · exact (Sw.list (n := 37) (w := 13) (Sw.ints fun i hi => by have := hw i hi; omega)).mono (by omega) (by rw [List.length_map, n2]; omega)
    · exact (si (by omega) (by omega)).mono (n := 38) (by omega) (by omega)
  · refine ⟨_, .tup (SqT.of h1) (.cons (.str _) (.cons (.tup (SqT.of h2) (.cons (.int 1) (.cons (Dp.ints h3) .nil))) .nil)), (Sw.tuple (n := 38) (w := 5000) fun d hd => ?_).mono (by omega) (by simp)⟩
    simp only [List.mem_cons, List.not_mem_nil, or_false] at hd
    rcases hd with rfl | rfl
    · exact (Sw.row h01 (by omega)).mono (n := 38) (by omega) (by omega)
    · refine (Sw.tuple (n := 37) (w := 1000) fun d hd => ?_).mono (by omega) (by simp)
      simp only [List.mem_cons, List.not_mem_nil, or_false] at hd
      rcases hd with rfl | rfl
      · exact (si (by omega) (by omega)).mono (n := 37) (by omega) (by omega)
      · exact (Sw.list (n := 36) (w := 13) (Sw.ints fun i hi => by have := ht i hi; omega)).mono (by omega) (by rw [List.length_map]; omega)
  · refine ⟨_, .tup (SqT.of h1) (.cons (Dp.rows h2) (.cons (.int most) .nil)), (Sw.tuple (n := 38) (w := 2000) fun d hd => ?_).mono (by omega) (by simp)⟩
    simp only [List.mem_cons, List.not_mem_nil, or_false] at hd
    rcases hd with rfl | rfl
    · exact (Sw.list (Sw.rows hB.b01 fun bs h => Nat.le_trans (hb bs h) (by omega))).mono (m := 38) (n := 38) (by omega) (by rw [List.length_map, n1]; omega)
    · exact (si (by omega) (by omega)).mono (n := 38) (by omega) (by omega)
  · refine ⟨_, .tup (SqT.of h1) (.cons (.str _) (.cons (Dp.ints (ns := [n]) h2) (.cons (.int most) .nil))), (Sw.tuple (n := 38) (w := 2000) fun d hd => ?_).mono (by omega) (by simp)⟩
    simp only [List.mem_cons, List.not_mem_nil, or_false] at hd
    rcases hd with rfl | rfl | rfl
    · exact (Sw.row h01 (by omega)).mono (n := 38) (by omega) (by omega)
    · exact (Sw.list (n := 37) (w := 13) (Sw.ints fun i hi => by simp at hi; omega)).mono (by omega) (by simp)
    · exact (si (by omega) (by omega)).mono (n := 38) (by omega) (by omega)
  · refine ⟨_, .tup (SqT.of h1) (.cons (.str _) (.cons (.int 3) (.cons (Dp.two h2) .nil))), (Sw.tuple (n := 38) (w := 2000) fun d hd => ?_).mono (by omega) (by simp)⟩
    simp only [List.mem_cons, List.not_mem_nil, or_false] at hd
    rcases hd with rfl | rfl | rfl
    · exact (Sw.row h01 (by omega)).mono (n := 38) (by omega) (by omega)
    · exact (si (by omega) (by omega)).mono (n := 38) (by omega) (by omega)
    · exact (Sw.tuple (n := 37) (w := 13) (ds := [.int t, .int u]) fun d hd => by
        simp only [List.mem_cons, List.not_mem_nil, or_false] at hd
        rcases hd with rfl | rfl <;> exact si (by omega) (by omega)).mono (by omega) (by simp)
def word95 : Nat → Str
  | 1 => "UnlikeRows"
  | 2 => "TooMuch"
  | 3 => "TooShort"
  | 4 => "NoShare"
  | _ => ""
def Cases95 (H : Hp) (ts : List Addr) : Prop := ∀ t ∈ ts, ∃ w th c, H t = some (.tup [.int w, .ref th, .str (word95 c)]) ∧ Case95 H w th c
theorem Cases95.kp {H H' : Hp} {ts : List Addr} (k : Kp [] H H') (h : Cases95 H ts) : Cases95 H' ts := fun t ht => by
  obtain ⟨w, th, c, e, r⟩ := h t ht
  exact ⟨w, th, c, k _ _ (by simp) e, r.kp k⟩
theorem Cases95.nil {H : Hp} : Cases95 H [] := fun _ h => by cases h
theorem Cases95.cons {H : Hp} {ts : List Addr} {t : Addr} {w : Int} {th : Addr} {c : Nat} (e : H t = some (.tup [.int w, .ref th, .str (word95 c)])) (r : Case95 H w th c) (h : Cases95 H ts) : Cases95 H (t :: ts) := fun t' ht => by
  rcases List.mem_cons.mp ht with rfl | q
  · exact ⟨w, th, c, e, r⟩
  · exact h t' q
end M

set_option maxHeartbeats 4000000
namespace M
open PySem PySem.Spec PySem.W PyProof.Rows L2
theorem at_of {H H' : Hp} {q : Addr} {o : HO} (e : upd H q o = H') : H' q = some o := by rw [← e]; exact upd_same
theorem kp_of {H H' : Hp} {q : Addr} {o : HO} (e : upd H q o = H') (n : H q = none) : Kp [] H H' := by rw [← e]; exact (Kp.refl _ _).new n
theorem kpx_of {ex : List Addr} {H0 H H' : Hp} {q : Addr} {o : HO} (k : Kp ex H0 H) (e : upd H q o = H') (n : H q = none) : Kp ex H0 H' := by rw [← e]; exact k.new n
theorem pl_of {H H' : Hp} {q : Addr} {o : HO} (e : upd H q o = H') (p : Pl H) (ho : plO o = true) : Pl H' := by rw [← e]; exact p.upd ho
theorem Kp.at' {H H' : Hp} (k : Kp [] H H') {a : Addr} {o : HO} (h : H a = some o) : H' a = some o := k a o (by simp) h
structure S95 (H0 : Hp) (b c : Addr) (T : Int) (p tp : Addr) (ws ts : List Int) (ks : List Addr) (H : Hp) : Prop where
  box : Box H b c T
  pl : Pl H
  kp : Kp [b, c] H0 H
  gL : H p = some (.lst (ws.map V.int))
  gT : H tp = some (.lst (ts.map V.int))
  cs : Cases95 H ks
theorem S95.of {H0 H H' : Hp} {b c : Addr} {T : Int} {p tp : Addr} {ws ts : List Int} {ks : List Addr} {q : Addr} {o : HO} (s : S95 H0 b c T p tp ws ts ks H) (n : H q = none) (e : upd H q o = H') (ho : plO o = true) : S95 H0 b c T p tp ws ts ks H' :=
  have k := kp_of e n
  ⟨s.box.kp k, pl_of e s.pl ho, kpx_of s.kp e n, k.at' s.gL, k.at' s.gT, s.cs.kp k⟩
end M

set_option maxHeartbeats 4000000
namespace M
open PySem PySem.Spec PySem.W PyProof.Rows L2
theorem TbAt.kp {gp : Pos} {Pt : Addr} {H H' : Hp} (t : TbAt gp Pt H) (k : Kp [] H H') : TbAt gp Pt H' := by
  obtain ⟨ps, e, o⟩ := t; exact ⟨ps, k.at' e, o⟩
theorem tbl_ne {H : Hp} {b c Pt : Addr} {T : Int} {ps : Array Value} (x : Box H b c T) (e : H Pt = some (.tbl ps)) : Pt ≠ b ∧ Pt ≠ c := by
  obtain ⟨ns, t, h1, h2, _⟩ := x.ex
  exact ⟨fun z => (by rw [z, h1] at e; cases e), fun z => (by rw [z, h2] at e; cases e)⟩
theorem TbAt.chg {gp : Pos} {Pt : Addr} {H H' : Hp} {ex : List Addr} (t : TbAt gp Pt H) (c : Chg ex H H') (n : Pt ∉ ex) : TbAt gp Pt H' := by
  obtain ⟨ps, e, o⟩ := t; exact ⟨ps, by rw [c Pt n]; exact e, o⟩
theorem TbAt.nn {gp : Pos} {Pt : Addr} {H : Hp} (t : TbAt gp Pt H) : H Pt ≠ none := by
  obtain ⟨ps, e, o⟩ := t; rw [e]; simp
theorem TbAt.ne {gp : Pos} {Pt a : Addr} {H : Hp} (t : TbAt gp Pt H) (h : H a = none) : a ≠ Pt := fun z => by rw [z] at h; exact t.nn h
theorem TbAt.box {gp : Pos} {Pt : Addr} {H : Hp} {b c : Addr} {T : Int} (t : TbAt gp Pt H) (x : Box H b c T) : Pt ≠ b ∧ Pt ≠ c := by
  obtain ⟨ps, e, o⟩ := t; exact tbl_ne x e
theorem TbAt.upd {gp : Pos} {Pt q : Addr} {o : HO} {H : Hp} (t : TbAt gp Pt H) (n : q ≠ Pt) : TbAt gp Pt (upd H q o) := by
  obtain ⟨ps, e, k⟩ := t; exact ⟨ps, by rw [upd_ne n.symm]; exact e, k⟩
end M

set_option maxHeartbeats 4000000
namespace M
open PySem PySem.Spec PySem.W PyProof.Rows L2
def tTryN (K : PySem.W.Frag) (i : Nat) (te : TX) (Dc : Addr) (ts : TS) : TS := fun D σ H => te σ H (fun v H1 => D.nx (σ.set i (some v)) H1) fun c _ H1 => ∃ C, c = .ref C ∧ supIn K C Dc = true ∧ Xk K C ∧ ∀ x, H1 x = none → ts D σ (upd H1 x (xcO C x))
def bitAtN (bs : List Int) (i : Nat) : Int := bs.getD i 0
def begs (bs : List Int) (k : Nat) : List Nat := (List.range k).filter fun p => decide (p = 0) || decide (bitAtN bs p ≠ bitAtN bs (p - 1))
theorem begs_snoc (bs : List Int) (k : Nat) : begs bs (k + 1) = begs bs k ++ if k = 0 ∨ bitAtN bs k ≠ bitAtN bs (k - 1) then [k] else [] := by
  unfold begs
  rw [List.range_succ, List.filter_append]
  congr 1
  by_cases h : k = 0 ∨ bitAtN bs k ≠ bitAtN bs (k - 1)
  · rw [if_pos h, List.filter_cons_of_pos (by simpa using h)]; rfl
  · rw [if_neg h, List.filter_cons_of_neg (by simpa using h)]; rfl
def prs (bs : List Int) (l : List Nat) : List (Int × Int) := (List.range (l.length - 1)).map fun k => (bitAtN bs (l.getD k 0), (l.getD (k + 1) 0 : Int) - (l.getD k 0 : Int))
theorem getD_app {l m : List Nat} {k : Nat} (h : k < l.length) : (l ++ m).getD k 0 = l.getD k 0 := by
  simp [List.getD, List.getElem?_append_left h]
theorem prs_snoc (bs : List Int) (l : List Nat) (x y : Nat) : prs bs (l ++ [x] ++ [y]) = prs bs (l ++ [x]) ++ [(bitAtN bs x, (y : Int) - x)] := by
  unfold prs
  have e1 : (l ++ [x] ++ [y]).length - 1 = l.length + 1 := by simp
  have e2 : (l ++ [x]).length - 1 = l.length := by simp
  rw [e1, e2, List.range_succ, List.map_append]
  congr 1
  · refine List.map_congr_left fun k hk => ?_
    have hk := List.mem_range.mp hk
    rw [getD_app (l := l ++ [x]) (by simp; omega), getD_app (l := l ++ [x]) (by simp; omega)]
  · simp only [List.map_cons, List.map_nil]
    rw [getD_app (l := l ++ [x]) (by simp)]
    have a1 : (l ++ [x]).getD l.length 0 = x := by simp [List.getD]
    have a2 : (l ++ [x] ++ [y]).getD (l.length + 1) 0 = y := by simp [List.getD]
    rw [a1, a2]
def runsL (bs : List Int) : List (Int × Int) := prs bs (begs bs bs.length ++ [bs.length])
structure RunAt (bs : List Int) (k : Nat) (told : List (Int × Int)) (first : Nat) : Prop where
  lst : ∃ l, begs bs k = l ++ [first]
  told : told = prs bs (begs bs k)
  lt : first < k
  same : ∀ j, first ≤ j → j < k → bitAtN bs j = bitAtN bs first
theorem RunAt.one {bs : List Int} : RunAt bs 1 [] 0 := ⟨⟨[], by rw [begs_snoc]; rfl⟩, by rw [begs_snoc]; rfl, by omega, fun j h1 h2 => by rw [show j = 0 by omega]⟩
theorem RunAt.go {bs : List Int} {k first : Nat} {told : List (Int × Int)} (h : RunAt bs k told first) (e : bitAtN bs k = bitAtN bs first) : RunAt bs (k + 1) told first := by
  obtain ⟨⟨l, hl⟩, h2, h3, h4⟩ := h
  have hb : begs bs (k + 1) = begs bs k := by
    rw [begs_snoc, if_neg, List.append_nil]
    rintro (h | h)
    · omega
    · exact h (e.trans (h4 (k - 1) (by omega) (by omega)).symm)
  refine ⟨⟨l, by rw [hb]; exact hl⟩, by rw [hb]; exact h2, by omega, fun j j1 j2 => ?_⟩
  by_cases hj : j = k
  · rw [hj]; exact e
  · exact h4 j j1 (by omega)
theorem RunAt.cut {bs : List Int} {k first : Nat} {told : List (Int × Int)} (h : RunAt bs k told first) (e : bitAtN bs k ≠ bitAtN bs first) : RunAt bs (k + 1) (told ++ [(bitAtN bs first, (k : Int) - first)]) k := by
  obtain ⟨⟨l, hl⟩, h2, h3, h4⟩ := h
  have hb : begs bs (k + 1) = begs bs k ++ [k] := by
    rw [begs_snoc, if_pos (.inr (fun h => e (h.trans (h4 (k - 1) (by omega) (by omega)))))]
  refine ⟨⟨begs bs k, hb⟩, ?_, by omega, fun j j1 j2 => by rw [show j = k by omega]⟩
  rw [hb, hl, prs_snoc, h2, hl]
theorem RunAt.done {bs : List Int} {first : Nat} {told : List (Int × Int)} (h : RunAt bs bs.length told first) : told ++ [(bitAtN bs first, (bs.length : Int) - first)] = runsL bs := by
  obtain ⟨⟨l, hl⟩, h2, h3, h4⟩ := h
  unfold runsL
  rw [hl, prs_snoc, h2, hl]
end M

set_option maxHeartbeats 4000000
namespace M
open PySem PySem.Spec PySem.W PyProof.Rows L2
def wAt (ws : List Int) (i : Int) : Int := ws.getD (i.fmod ws.length).toNat 0
def someW (ws : List Int) (f : Int) : Nat → Int
  | 0 => 0
  | m + 1 => someW ws f m + wAt ws (f + m)
def offW (ws : List Int) (f : Int) (m : Nat) : Int := ws.length * someW ws f m - m * ws.sum
def Gap (ws : List Int) (x : Int) : Prop := ∃ f m : Nat, f < ws.length ∧ m < ws.length ∧ x = offW ws f m
structure GapM (ws : List Int) (M : Int) : Prop where
  is : Gap ws M
  top : ∀ x, Gap ws x → x ≤ M
structure GapL (ws : List Int) (m : Int) : Prop where
  is : Gap ws m
  low : ∀ x, Gap ws x → m ≤ x
theorem GapM.unique {ws : List Int} {a b : Int} (h : GapM ws a) (h' : GapM ws b) : a = b := Int.le_antisymm (h'.top _ h.is) (h.top _ h'.is)
theorem GapL.unique {ws : List Int} {a b : Int} (h : GapL ws a) (h' : GapL ws b) : a = b := Int.le_antisymm (h.low _ h'.is) (h'.low _ h.is)
end M

set_option maxHeartbeats 4000000
namespace M
open PySem PySem.Spec PySem.W PyProof.Rows L2
structure Trips (H : Hp) (rs : List Addr) (ts : List (Int × Nat × Nat)) : Prop where
  len : rs.length = ts.length
  at' : ∀ (i : Nat) (r : Addr) (t : Int × Nat × Nat), rs[i]? = some r → ts[i]? = some t → H r = some (.tup [.int t.1, .int (t.2.1 : Nat), .int (t.2.2 : Nat)])
theorem Trips.kp {H H' : Hp} {rs : List Addr} {ts : List (Int × Nat × Nat)} (x : Trips H rs ts) (k : Kp [] H H') : Trips H' rs ts := ⟨x.len, fun i r p h1 h2 => k.at' (x.at' i r p h1 h2)⟩
theorem Trips.nil {H : Hp} : Trips H [] [] := ⟨rfl, fun i r p h => by simp at h⟩
theorem Trips.snoc {H : Hp} {rs : List Addr} {ts : List (Int × Nat × Nat)} {r : Addr} {t : Int × Nat × Nat} (x : Trips H rs ts) (h : H r = some (.tup [.int t.1, .int (t.2.1 : Nat), .int (t.2.2 : Nat)])) : Trips H (rs ++ [r]) (ts ++ [t]) := by
  refine ⟨by simp [x.len], fun i r' t' h1 h2 => ?_⟩
  by_cases hi : i < rs.length
  · rw [List.getElem?_append_left hi] at h1
    rw [List.getElem?_append_left (by rw [← x.len]; exact hi)] at h2
    exact x.at' i r' t' h1 h2
  · have := (List.getElem?_eq_some_iff.mp h1).1
    rw [List.length_append] at this
    simp at this
    have hi2 : i = rs.length := by omega
    subst hi2
    rw [List.getElem?_append_right (by omega)] at h1
    rw [x.len, List.getElem?_append_right (by omega)] at h2
    simp at h1 h2
    subst h1; subst h2; exact h
theorem Trips.updL {H : Hp} {p : Addr} {xs ys : List V} {rs : List Addr} {ts : List (Int × Nat × Nat)} (x : Trips H rs ts) (h : H p = some (.lst xs)) : Trips (upd H p (.lst ys)) rs ts := ⟨x.len, fun i r t h1 h2 => by
  have e := x.at' i r t h1 h2
  rw [upd_ne (fun z => by rw [z, h] at e; cases e)]; exact e⟩
structure Loads (ws : List Int) : Prop where
  l1 : 1 ≤ ws.length
  l8 : ws.length ≤ 8
  w : ∀ x ∈ ws, 0 ≤ x ∧ x ≤ 1000000
theorem Loads.sum {ws : List Int} (h : Loads ws) : 0 ≤ ws.sum ∧ ws.sum ≤ 8000000 := by
  have := sum_bound (many := 1000000) h.w
  have := h.l8
  omega
theorem Loads.at' {ws : List Int} (h : Loads ws) (i : Int) : ws[(i.fmod ws.length).toNat]? = some (wAt ws i) ∧ 0 ≤ wAt ws i ∧ wAt ws i ≤ 1000000 := by
  have f := fmod_in (A := i) (b := ws.length) (by have := h.l1; omega)
  have hl : (i.fmod ws.length).toNat < ws.length := by omega
  have e : ws[(i.fmod ws.length).toNat]? = some (wAt ws i) := by
    unfold wAt
    rw [List.getD_eq_getElem?_getD, List.getElem?_eq_getElem hl]; rfl
  exact ⟨e, h.w _ (List.mem_of_getElem? e)⟩
theorem Loads.some {ws : List Int} (h : Loads ws) (f : Int) : ∀ m : Nat, 0 ≤ someW ws f m ∧ someW ws f m ≤ 1000000 * m
  | 0 => by simp [someW]
  | m + 1 => by
    have ih := h.some f m
    have := h.at' (f + m)
    rw [someW]
    omega
theorem Loads.off {ws : List Int} (h : Loads ws) (f : Int) {m : Nat} (hm : m ≤ 8) : -64000000 ≤ offW ws f m ∧ offW ws f m ≤ 64000000 := by
  have a := h.some f m
  have b := h.sum
  have l1 := h.l1
  have l8 := h.l8
  unfold offW
  have h1 : (ws.length : Int) * someW ws f m ≤ 8 * 8000000 := Int.mul_le_mul (by omega) (by omega) a.1 (by omega)
  have h2 : 0 ≤ (ws.length : Int) * someW ws f m := Int.mul_nonneg (by omega) a.1
  have h3 : (m : Int) * ws.sum ≤ 8 * 8000000 := Int.mul_le_mul (by omega) b.2 b.1 (by omega)
  have h4 : 0 ≤ (m : Int) * ws.sum := Int.mul_nonneg (by omega) b.1
  omega
end M

set_option maxHeartbeats 4000000
namespace M
open PySem PySem.Spec PySem.W PyProof.Rows L2
end M

set_option maxHeartbeats 4000000
namespace M
open PySem PySem.Spec PySem.W PyProof.Rows L2
structure Bag (H0 : Hp) (b c Pt : Addr) (gp : Pos) (cs : List (Addr × HO)) (T : Int) (H : Hp) : Prop where
  box : Box H b c T
  tb : TbAt gp Pt H
  pl : Pl H
  kp : Kp [b, c, Pt] H0 H
  has : ∀ p ∈ cs, H p.1 = some p.2
  off : ∀ p ∈ cs, p.1 ≠ b ∧ p.1 ≠ c ∧ p.1 ≠ Pt
theorem Bag.go {H0 H H' : Hp} {b c Pt : Addr} {gp : Pos} {cs : List (Addr × HO)} {T : Int} (s : Bag H0 b c Pt gp cs T H) (k : Kp [] H H') (p : Pl H') : Bag H0 b c Pt gp cs T H' :=
  ⟨s.box.kp k, s.tb.kp k, p, s.kp.trans (k.mono (by simp)), fun q hq => k.at' (s.has q hq), s.off⟩
theorem Bag.new {H0 H H' : Hp} {b c Pt : Addr} {gp : Pos} {cs : List (Addr × HO)} {T : Int} {q : Addr} {o : HO} (s : Bag H0 b c Pt gp cs T H) (n : H q = none) (e : upd H q o = H') (ho : plO o = true) : Bag H0 b c Pt gp ((q, o) :: cs) T H' := by
  have k := kp_of e n
  have g := s.go k (pl_of e s.pl ho)
  obtain ⟨n1, n2⟩ := s.box.ne_new n
  exact ⟨g.box, g.tb, g.pl, g.kp, fun p hp => by
    rcases List.mem_cons.mp hp with rfl | hp
    · exact at_of e
    · exact g.has p hp, fun p hp => by
    rcases List.mem_cons.mp hp with rfl | hp
    · exact ⟨n1, n2, s.tb.ne n⟩
    · exact s.off p hp⟩
theorem Bag.sub {H0 H : Hp} {b c Pt : Addr} {gp : Pos} {cs cs' : List (Addr × HO)} {T : Int} (s : Bag H0 b c Pt gp cs T H) (h : ∀ p ∈ cs', p ∈ cs) : Bag H0 b c Pt gp cs' T H := ⟨s.box, s.tb, s.pl, s.kp, fun p hp => s.has p (h p hp), fun p hp => s.off p (h p hp)⟩
theorem Bag.take {H0 H H' : Hp} {b c Pt : Addr} {gp : Pos} {cs : List (Addr × HO)} {T T' : Int} (s : Bag H0 b c Pt gp cs T H) (k : Chg [b, c] H H') (x : Box H' b c T') (p : Pl H') : Bag H0 b c Pt gp cs T' H' := by
  obtain ⟨P1, P2⟩ := s.tb.box s.box
  exact ⟨x, s.tb.chg k (by simp [P1, P2]), p, s.kp.chg k (by intro a ha; simp at ha; rcases ha with rfl | rfl <;> simp), fun q hq => by rw [k q.1 (by simp [(s.off q hq).1, (s.off q hq).2.1])]; exact s.has q hq, s.off⟩
theorem Bag.write {H0 H H' : Hp} {b c Pt q : Addr} {gp : Pos} {cs : List (Addr × HO)} {T : Int} {o : HO} (s : Bag H0 b c Pt gp cs T H) (e : upd H q o = H') (ho : plO o = true) (n : q ≠ b ∧ q ≠ c ∧ q ≠ Pt) (h0 : H0 q = none) (hr : ∀ r ∈ cs, r.1 ≠ q) : Bag H0 b c Pt gp cs T H' := by
  subst e
  exact ⟨s.box.upd n.1 n.2.1, s.tb.upd n.2.2, s.pl.upd ho, s.kp.upd (.inr h0), fun r hq => by rw [upd_ne (hr r hq)]; exact s.has r hq, s.off⟩
theorem Bag.h0 {H0 H : Hp} {b c Pt : Addr} {gp : Pos} {T : Int} {q : Addr} {o : HO} {cs : List (Addr × HO)}  (s : Bag H0 b c Pt gp ((q, o) :: cs) T H) : H q = some o := s.has (q, o) (by simp)
theorem Bag.h1 {H0 H : Hp} {b c Pt : Addr} {gp : Pos} {T : Int} {q : Addr} {o : HO} {cs : List (Addr × HO)} {p0 : Addr × HO} (s : Bag H0 b c Pt gp (p0 :: (q, o) :: cs) T H) : H q = some o := s.has (q, o) (by simp)
theorem Bag.o1 {H0 H : Hp} {b c Pt : Addr} {gp : Pos} {T : Int} {q : Addr} {o : HO} {cs : List (Addr × HO)} {p0 : Addr × HO} (s : Bag H0 b c Pt gp (p0 :: (q, o) :: cs) T H) : q ≠ b ∧ q ≠ c ∧ q ≠ Pt := s.off (q, o) (by simp)
theorem Bag.h2 {H0 H : Hp} {b c Pt : Addr} {gp : Pos} {T : Int} {q : Addr} {o : HO} {cs : List (Addr × HO)} {p0 : Addr × HO} {p1 : Addr × HO} (s : Bag H0 b c Pt gp (p0 :: p1 :: (q, o) :: cs) T H) : H q = some o := s.has (q, o) (by simp)
theorem Bag.o2 {H0 H : Hp} {b c Pt : Addr} {gp : Pos} {T : Int} {q : Addr} {o : HO} {cs : List (Addr × HO)} {p0 : Addr × HO} {p1 : Addr × HO} (s : Bag H0 b c Pt gp (p0 :: p1 :: (q, o) :: cs) T H) : q ≠ b ∧ q ≠ c ∧ q ≠ Pt := s.off (q, o) (by simp)
theorem Bag.h3 {H0 H : Hp} {b c Pt : Addr} {gp : Pos} {T : Int} {q : Addr} {o : HO} {cs : List (Addr × HO)} {p0 : Addr × HO} {p1 : Addr × HO} {p2 : Addr × HO} (s : Bag H0 b c Pt gp (p0 :: p1 :: p2 :: (q, o) :: cs) T H) : H q = some o := s.has (q, o) (by simp)
theorem Bag.h4 {H0 H : Hp} {b c Pt : Addr} {gp : Pos} {T : Int} {q : Addr} {o : HO} {cs : List (Addr × HO)} {p0 : Addr × HO} {p1 : Addr × HO} {p2 : Addr × HO} {p3 : Addr × HO} (s : Bag H0 b c Pt gp (p0 :: p1 :: p2 :: p3 :: (q, o) :: cs) T H) : H q = some o := s.has (q, o) (by simp)
theorem Bag.h5 {H0 H : Hp} {b c Pt : Addr} {gp : Pos} {T : Int} {q : Addr} {o : HO} {cs : List (Addr × HO)} {p0 : Addr × HO} {p1 : Addr × HO} {p2 : Addr × HO} {p3 : Addr × HO} {p4 : Addr × HO} (s : Bag H0 b c Pt gp (p0 :: p1 :: p2 :: p3 :: p4 :: (q, o) :: cs) T H) : H q = some o := s.has (q, o) (by simp)
end M

set_option maxHeartbeats 4000000
namespace M
open PySem PySem.Spec PySem.W PyProof.Rows L2
def TyV (K : PySem.W.Frag) (h : Heap) (u t : Value) : Prop := ∃ Hh, KitX K u t Hh ∧ u ≠ Value.builtin "__main__.__loader__#opaque" ∧ ∀ h', (∀ b o, h.get? b = some o → h'.get? b = some o) → Hh h'
theorem TyV.int {K : PySem.W.Frag} {h : Heap} {i : Int} {u : Tok} : TyV K h (.int i u) (.type "int") := ⟨_, kitx_int, (fun z => nomatch z), fun _ _ => True.intro⟩
theorem TyV.keeps {K : PySem.W.Frag} {h h' : Heap} {u t : Value} (x : TyV K h u t) (k : ∀ b o, h.get? b = some o → h'.get? b = some o) : TyV K h' u t := by
  obtain ⟨Hh, a, n, b⟩ := x
  exact ⟨Hh, a, n, fun h'' k' => b h'' fun c o e => k' c o (k c o e)⟩
section
variable {prog : Program} {w : World} {A : Around} {E : Value → Shared → Prop} {s : Shared} {K : PySem.W.Frag} {mg : Str → Option Value}
end
end M

set_option maxHeartbeats 4000000
namespace M
open PySem PySem.Spec PySem.W PyProof.Rows L2
def KindV (H : Hp) : V → Prop
  | .int _ => True
  | .bl _ => True
  | .str _ => True
  | .non => True
  | .ref a => (∃ xs, H a = some (.lst xs)) ∨ ∃ xs, H a = some (.tup xs)
  | _ => False
structure NumDef (K : PySem.W.Frag) (mg : Str → Option Value) (st : Stmt) (x : Str) : Prop where
  ex : ∃ (f : Addr) (fd : FuncData) (N : List Str) (p1 p2 p3 p4 p5 p6 p7 p8 p9 p10 p11 : Pos), Fun K "is_number" "is_number" st f fd ∧ Binds K fd [x] [] ∧ mg "is_number" = some (.ref f) ∧ PySem.W.keepIn K (.ref f) = true ∧ FnScope N [x] (defScope st) ∧
    defBody st = [.Return (some (.BoolOp .And [.Call (.Name "isinstance" p1) [.Name x p2, .Name "int" p3] [] p4, .UnaryOp .Not (.Call (.Name "isinstance" p5) [.Name x p6, .Name "bool" p7] [] p8) p9] p10)) p11]
  lx : (defScope st).names.lookup x = some .local
  li : (defScope st).names.lookup ("isinstance" : Str) = some .globalImplicit
  ln : (defScope st).names.lookup ("int" : Str) = some .globalImplicit
  lb : (defScope st).names.lookup ("bool" : Str) = some .globalImplicit
  mi : mg "isinstance" = none
  mn : mg "int" = none
  mb : mg "bool" = none
  dx : (x == ("__debug__" : Str)) = false
end M

set_option maxHeartbeats 4000000
namespace M
open PySem PySem.Spec PySem.W PyProof.Rows L2
end M

set_option maxHeartbeats 4000000
namespace M
open PySem PySem.Spec PySem.W PyProof.Rows L2
theorem Room.r5 {k : Nat} {A : Around} (r : Room k A) : A.depth + 5 < recursionLimit := by have := r.dp; omega
structure Ls34 (ls : List Int) : Prop where
  L : Lens ls
  n1 : 1 ≤ (wV ls).length
  n9 : (wV ls).length ≤ 900
  w : ∀ x ∈ wV ls, 0 ≤ x ∧ x ≤ 1000000000000
structure Wv34 (u : Int) (n : Nat) (st : Int) (ts : List Int) : Prop where
  s0 : 0 ≤ st
  s1 : st < u
  len : ts.length = n
  t : ∀ x ∈ ts, 0 ≤ x ∧ x ≤ u
def IsPk (ls : List Int) (pk : Int) : Prop := pk ∈ wV ls ∧ ∀ y ∈ wV ls, y ≤ pk
theorem IsPk.unique {ls : List Int} {a b : Int} (h : IsPk ls a) (h' : IsPk ls b) : a = b := Int.le_antisymm (h'.2 _ h.1) (h.2 _ h'.1)
end M

set_option maxHeartbeats 4000000
namespace M
open PySem PySem.Spec PySem.W PyProof.Rows L2
end M

set_option maxHeartbeats 4000000
namespace M
open PySem L2 PyProof.Rows
end M

set_option maxHeartbeats 4000000
namespace M
open PySem L2 PyProof.Rows
def KindW (H : Hp) (v : V) : Prop := KindV H v ∧ ∀ r xs, v = .ref r → H r = some (.tup xs) → (∀ x ∈ xs, KindV H x) ∧ ∀ tp ys, V.ref tp ∈ xs → H tp = some (.lst ys) → ∀ y ∈ ys, KindV H y
end M

set_option maxHeartbeats 4000000
namespace M
open PySem L2 PyProof.Rows
end M

set_option maxHeartbeats 4000000
namespace M
open PySem L2 PyProof.Rows
end M

set_option maxHeartbeats 4000000
namespace M
open PySem L2 PyProof.Rows
theorem Sw.int20 {n : Nat} {i : Int} (h : i.natAbs < 10 ^ 21) : Sw n 22 (.int i) := by
  refine ⟨by simp [PyData.canLay0], by simp [PyData.depth], ?_, ?_⟩
  · simp only [PyData.showable]
    refine decide_eq_true (Nat.lt_of_le_of_lt (log2_mono (Nat.le_of_lt h)) (by decide))
  · show (Str.ofString (toString i)).length ≤ 22
    rw [PySem.ofString_length]
    exact int_text_length_le10 (k := 21) (by decide) h
theorem cps_small (z : String) : ∀ c ∈ (Str.ofString z).cps.toList, c < 1114112 := by
  intro c hc
  have e : (Str.ofString z).cps.toList = z.toList.map Char.toNat := by
    show (cpsOfBytes 0 0 z.toByteArray.data.toList).toArray.toList = _
    rw [cpsOfBytes_string]
  rw [e] at hc
  obtain ⟨d, _, rfl⟩ := List.mem_map.mp hc
  have := d.valid
  unfold UInt32.isValidChar Nat.isValidChar at this
  show d.val.toNat < 1114112
  omega
def BentV (H : Hp) (ex : List Addr) : V → Prop
  | .int i => i.natAbs ≤ 10 ^ 20
  | .bl _ => True
  | .non => True
  | .str z => ∃ n : Int, (0 ≤ n ∧ n ≤ 1000) ∧ z = Str.ofString (toString n)
  | .ref q => (∃ i : Int, H q = some (.lst [.int i]) ∧ i.natAbs ≤ 10 ^ 20) ∧ q ∉ ex
  | _ => False
def Sq (ex : List Addr) (H H' : Hp) : Prop := ∀ q xs, (H q = some (.lst xs) ∨ H q = some (.tup xs)) → q ∉ ex → H' q = H q
theorem Sq.refl (ex : List Addr) (H : Hp) : Sq ex H H := fun _ _ _ _ => rfl
theorem Sq.trans {ex : List Addr} {H H' H'' : Hp} (k : Sq ex H H') (k' : Sq ex H' H'') : Sq ex H H'' := fun q xs h n => by
  have e := k q xs h n
  rw [k' q xs (by rw [e]; exact h) n, e]
theorem Sq.kp {ex ey : List Addr} {H H' : Hp} (k : Kp ey H H') (s : ∀ a ∈ ey, a ∈ ex) : Sq ex H H' := fun q xs h n => by
  have n' : q ∉ ey := fun z => n (s q z)
  rcases h with h | h
  · rw [h]; exact k q _ n' h
  · rw [h]; exact k q _ n' h
theorem Sq.upd {ex : List Addr} {H : Hp} {D : Addr} {o : HO} (h : D ∈ ex) : Sq ex H (upd H D o) := fun q xs _ n => upd_ne fun z => n (z ▸ h)
theorem Sq.l {ex : List Addr} {q : Addr} {xs : List V} {H H' : Hp} (k : Sq ex H H') (e : H q = some (.lst xs)) (nb : q ∉ ex) : H' q = some (.lst xs) := by rw [k q xs (.inl e) nb, e]
theorem Sq.t {ex : List Addr} {q : Addr} {xs : List V} {H H' : Hp} (k : Sq ex H H') (e : H q = some (.tup xs)) (nb : q ∉ ex) : H' q = some (.tup xs) := by rw [k q xs (.inr e) nb, e]
structure PartV (K : PySem.W.Frag) (H : Hp) (ex : List Addr) (n w : Nat) (v : V) (d : PyData) : Prop where
  sw : Sw n w d
  dp : ∀ H', Sq ex H H' → Dp K H' v d
  kv : ∀ H', Sq ex H H' → KindV H' v
  kl : ∀ H', Sq ex H H' → ∀ tp ys, v = .ref tp → H' tp = some (.lst ys) → ys.length ≤ 1000 ∧ ∀ y ∈ ys, KindV H' y
structure Spoilt (K : PySem.W.Frag) (H : Hp) (ex : List Addr) (v : V) (d : PyData) : Prop where
  sw : Sw 40 16000000 d
  dp : ∀ H', Sq ex H H' → Dp K H' v d
  kw : ∀ H', Sq ex H H' → KindW H' v
  lw : ∀ H', Sq ex H H' → ∀ r xs, v = .ref r → H' r = some (.tup xs) → ∀ tp ys, V.ref tp ∈ xs → H' tp = some (.lst ys) → ys.length ≤ 1000
theorem Spoilt.go {K : PySem.W.Frag} {H H' : Hp} {ex : List Addr} {v : V} {d : PyData} (s : Spoilt K H ex v d) (k : Sq ex H H') : Spoilt K H' ex v d :=
  ⟨s.sw, fun H2 k2 => s.dp H2 (k.trans k2), fun H2 k2 => s.kw H2 (k.trans k2), fun H2 k2 => s.lw H2 (k.trans k2)⟩
section
variable {K : PySem.W.Frag} {H : Hp} {ex : List Addr}
theorem bent_int {i : Int} (h : i.natAbs ≤ 10 ^ 20) : BentV H ex (.int i) := h
theorem leaf_of {v : V} (h : BentV H ex v) : ∃ d, PartV K H ex 2 60 v d := by
  cases v with
  | int i => exact ⟨_, (Sw.int20 (by have : i.natAbs ≤ 10 ^ 20 := h; omega)).mono (Nat.le_refl _) (by decide), fun _ _ => .int i, fun _ _ => trivial, (fun _ _ _ _ e => by cases e)⟩
  | bl i => exact ⟨_, Sw.bool.mono (Nat.le_refl _) (by decide), fun _ _ => .bl i, fun _ _ => trivial, (fun _ _ _ _ e => by cases e)⟩
  | non => exact ⟨_, Sw.none.mono (Nat.le_refl _) (by decide), fun _ _ => .non, fun _ _ => trivial, (fun _ _ _ _ e => by cases e)⟩
  | str z =>
    obtain ⟨n, hn, rfl⟩ := h
    refine ⟨_, (Sw.str (cps_small _)).mono (Nat.le_refl _) ?_, fun _ _ => .str _, fun _ _ => trivial, (fun _ _ _ _ e => by cases e)⟩
    have := int_text_length_le10 (a := n) (k := 4) (by decide) (by omega)
    rw [PySem.ofString_length]; omega
  | ref q =>
    obtain ⟨⟨i, hq, hi⟩, nb⟩ := h
    refine ⟨_, ((Sw.list (n := 1) (w := 22) (ds := [i].map PyData.int) fun d hd => by simp at hd; subst hd; exact Sw.int20 (by omega)).mono (Nat.le_refl _) (by show (22 + 2) * 1 + 3 ≤ 60; decide)), fun H' k => Dp.ints (ns := [i]) (k.l hq nb), fun H' k => .inl ⟨_, k.l hq nb⟩, fun H' k tp ys e e2 => by
      cases e; rw [k.l hq nb] at e2; cases e2
      exact ⟨by simp, fun y hy => by simp at hy; subst hy; trivial⟩⟩
  | _ => exact h.elim
theorem parts_all {n w : Nat} : ∀ {ys : List V}, (∀ y ∈ ys, ∃ d, PartV K H ex n w y d) → ∃ ds, (∀ H', Sq ex H H' → DpAll K H' ys ds) ∧ (∀ d ∈ ds, Sw n w d) ∧ ds.length = ys.length
  | [], _ => ⟨[], fun _ _ => .nil, by simp, rfl⟩
  | y :: ys, h => by
    obtain ⟨ds, h1, h2, h3⟩ := parts_all (ys := ys) fun z hz => h z (by simp [hz])
    obtain ⟨d, hd⟩ := h y (by simp)
    exact ⟨d :: ds, fun H' k => .cons (hd.dp H' k) (h1 H' k), fun e he => by
      rcases List.mem_cons.mp he with rfl | z
      · exact hd.sw
      · exact h2 e z, by simp [h3]⟩
theorem part_tup {tp : Addr} {ys : List V} (e : H tp = some (.tup ys)) (h : ∀ y ∈ ys, BentV H ex y) (hl : ys.length ≤ 1000) (nb : tp ∉ ex) : ∃ d, PartV K H ex 3 1000000 (.ref tp) d := by
  have hp : ∀ y ∈ ys, ∃ d, PartV K H ex 2 60 y d := fun y hy => leaf_of (h y hy)
  obtain ⟨ds, h1, h2, h3⟩ := parts_all hp
  refine ⟨_, (Sw.tuple h2).mono (by decide) (by rw [h3]; omega), fun H' k => .tup (SqT.of (k.t e nb)) (h1 H' k), fun H' k => .inr ⟨_, k.t e nb⟩, fun H' k tp' ys' z z2 => ?_⟩
  cases z; rw [k.t e nb] at z2; cases z2
end
end M

set_option maxHeartbeats 4000000
namespace M
open PySem PySem.Spec PySem.W PyProof.Rows L2
theorem Bag.start {H0 H : Hp} {b c Pt D : Addr} {gp : Pos} {cs : List (Addr × HO)} {T : Int} {o : HO} (s : Bag H0 b c Pt gp cs T H) (n : H D = none) (ho : plO o = true) : Bag H0 b c Pt gp cs T (upd H D o) :=
  (s.new n rfl ho).sub fun p hp => by simp [hp]
theorem Bag.put {H0 H : Hp} {b c Pt q : Addr} {gp : Pos} {cs : List (Addr × HO)} {T : Int} {o : HO} (s : Bag H0 b c Pt gp cs T H) (ho : plO o = true) (n : (q ≠ b ∧ q ≠ c ∧ q ≠ Pt) ∧ H0 q = none ∧ ∀ r ∈ cs, r.1 ≠ q) : Bag H0 b c Pt gp cs T (upd H q o) := s.write rfl ho n.1 n.2.1 n.2.2
theorem PartV.go {K : PySem.W.Frag} {H H' : Hp} {ex : List Addr} {n w : Nat} {v : V} {d : PyData} (s : PartV K H ex n w v d) (k : Sq ex H H') : PartV K H' ex n w v d :=
  ⟨s.sw, fun H2 k2 => s.dp H2 (k.trans k2), fun H2 k2 => s.kv H2 (k.trans k2), fun H2 k2 => s.kl H2 (k.trans k2)⟩
end M

set_option maxHeartbeats 4000000
namespace M
open PySem PySem.Spec PySem.W PyProof.Rows L2
end M

set_option maxHeartbeats 4000000
namespace M
open PySem L2 PyProof.Rows
def Near (a b : Int) : Prop := a - b ≤ 1 ∧ b - a ≤ 1
theorem Near.symm {a b : Int} (h : Near a b) : Near b a := ⟨h.2, h.1⟩
theorem Near.refl (a : Int) : Near a a := ⟨by omega, by omega⟩
instance (a b : Int) : Decidable (Near a b) := by unfold Near; infer_instance
def Bal (bs : List Int) : Prop := ∀ m i j : Nat, 1 ≤ m → i + m ≤ bs.length → j + m ≤ bs.length → Near (cntL bs i m) (cntL bs j m)
structure Uv (bs : List Int) (i j m : Nat) : Prop where
  m1 : 1 ≤ m
  lt : i < j
  le : j + m ≤ bs.length
  far : ¬ Near (cntL bs i m) (cntL bs j m)
  short : ∀ m' i' j' : Nat, 1 ≤ m' → m' < m → i' + m' ≤ bs.length → j' + m' ≤ bs.length → Near (cntL bs i' m') (cntL bs j' m')
  first : ∀ i' j' : Nat, i' < j' → j' + m ≤ bs.length → (i' < i ∨ i' = i ∧ j' < j) → Near (cntL bs i' m) (cntL bs j' m)
theorem Uv.unique {bs : List Int} {i j m i' j' m' : Nat} (h : Uv bs i j m) (h' : Uv bs i' j' m') : i = i' ∧ j = j' ∧ m = m' := by
  have e : m = m' := by
    rcases Nat.lt_trichotomy m m' with q | q | q
    · exact absurd (h'.short m i j h.m1 q (by have := h.lt; have := h.le; omega) h.le) h.far
    · exact q
    · exact absurd (h.short m' i' j' h'.m1 q (by have := h'.lt; have := h'.le; omega) h'.le) h'.far
  subst e
  have e : i = i' := by
    rcases Nat.lt_trichotomy i i' with q | q | q
    · exact absurd (h'.first i j h.lt h.le (.inl q)) h.far
    · exact q
    · exact absurd (h.first i' j' h'.lt h'.le (.inl q)) h'.far
  subst e
  refine ⟨rfl, ?_, rfl⟩
  rcases Nat.lt_trichotomy j j' with q | q | q
  · exact absurd (h'.first i j h.lt h.le (.inr ⟨rfl, q⟩)) h.far
  · exact q
  · exact absurd (h.first i j' h'.lt h'.le (.inr ⟨rfl, q⟩)) h'.far
structure Fst2 (ns : List Int) (i j : Nat) : Prop where
  lt : i < j
  far : ∃ a b, ns[i]? = some a ∧ ns[j]? = some b ∧ ¬ Near a b
  first : ∀ (i' j' : Nat) (a b : Int), i' < j' → ns[i']? = some a → ns[j']? = some b → (i' < i ∨ i' = i ∧ j' < j) → Near a b
def KindT (H : Hp) (v : V) : Prop := KindV H v ∧ ∀ r xs, v = .ref r → H r = some (.tup xs) → ∀ x ∈ xs, KindV H x
theorem KindW.t {H : Hp} {v : V} (h : KindW H v) : KindT H v := ⟨h.1, fun r xs e e2 => (h.2 r xs e e2).1⟩
end M

set_option maxHeartbeats 4000000
namespace L2
open PySem PySem.Spec PyProof.Rows
section
variable {X : Cx} {a b c d e : Expr} {ta tb tc td te : TE} {pos : Pos}
def tChain4 (r r' r'' r''' : R2) (ta tb tc td te : TE) : TE := fun σ H Q => ta σ H fun x H1 => tb σ H1 fun y H2 => r x y H2 fun z H3 => ∃ k, z = .bl k ∧
  (if k = true then tc σ H3 fun w' H4 => r' y w' H4 (fun z2 H5 => ∃ k2, z2 = .bl k2 ∧ (if k2 = true then td σ H5 fun w2 H6 => r'' w' w2 H6 (fun z3 H7 => ∃ k3, z3 = .bl k3 ∧ (if k3 = true then te σ H7 fun w3 H8 => r''' w2 w3 H8 Q else Q (.bl false) H7)) else Q (.bl false) H5)) else Q (.bl false) H3)
end
end L2

set_option maxHeartbeats 4000000
namespace M
open PySem L2 PyProof.Rows
theorem cut_len {bs : List Int} {x k : Nat} (h : x + k ≤ bs.length) : ((bs.drop x).take k).length = k := by rw [List.length_take, List.length_drop]; omega
theorem cnt_cut {bs : List Int} {x k i m : Nat} (h : i + m ≤ k) : cntL ((bs.drop x).take k) i m = cntL bs (x + i) m := by
  unfold cntL
  rw [List.drop_take, List.drop_drop, List.take_take, show min m (k - i) = m by omega]
theorem NoSpan.whole {bs : List Int} {x k : Nat} (hx : x + k ≤ bs.length) (h : NoSpan ((bs.drop x).take k)) : NoSpan bs := by
  obtain ⟨i, m, j, n, m1, hm, n1, hn, e⟩ := h
  rw [cut_len hx] at hm hn
  rw [cnt_cut hm, cnt_cut hn] at e
  exact ⟨x + i, m, x + j, n, m1, by omega, n1, by omega, e⟩
theorem Spn.cut {bs : List Int} {x k : Nat} {a b c d a' b' c' d' : Int} (hx : x + k ≤ bs.length) (h : Spn bs a b c d) (h' : Spn ((bs.drop x).take k) a' b' c' d') : ¬ a * b' < a' * b ∧ ¬ c' * d < c * d' := by
  have hb := h.b1; have hd := h.d1; have hb' := h'.b1; have hd' := h'.d1
  constructor
  · obtain ⟨i, m, m1, hm, e⟩ := h'.low
    rw [cut_len hx] at hm
    rw [cnt_cut hm] at e
    have := h.lows (x + i) m m1 (by omega)
    have := cross_le (a := a') (b := b') (c := cntL bs (x + i) m - 1) (d := (m : Int)) (e := a) (f := b) hb' (by omega) hb (by omega) this
    omega
  · obtain ⟨i, m, m1, hm, e⟩ := h'.high
    rw [cut_len hx] at hm
    rw [cnt_cut hm] at e
    have := h.highs (x + i) m m1 (by omega)
    have := cross_le (a := c) (b := d) (c := cntL bs (x + i) m + 1) (d := (m : Int)) (e := c') (f := d') hd (by omega) hd' this (by omega)
    omega
theorem Bal.cut {bs : List Int} {x k : Nat} (hx : x + k ≤ bs.length) (h : Bal bs) : Bal ((bs.drop x).take k) := fun m i j m1 hi hj => by
  rw [cut_len hx] at hi hj
  rw [cnt_cut hi, cnt_cut hj]
  exact h m (x + i) (x + j) m1 (by omega) (by omega)
theorem Bal.take {bs : List Int} {n n' : Nat} (hn : n ≤ n') (h : Bal (bs.take n')) : Bal (bs.take n) := by
  by_cases q : n' ≤ bs.length
  · have l1 : (bs.take n').length = n' := by rw [List.length_take]; omega
    have := Bal.cut (x := 0) (k := n) (by omega) h
    rw [List.drop_zero, List.take_take, Nat.min_eq_left hn] at this
    exact this
  · rw [List.take_of_length_le (show bs.length ≤ n' by omega)] at h
    by_cases q2 : n ≤ bs.length
    · have := Bal.cut (x := 0) (k := n) (by omega) h
      rw [List.drop_zero] at this
      exact this
    · rw [List.take_of_length_le (by omega)]; exact h
end M

set_option maxHeartbeats 4000000
namespace M
open PySem L2 PyProof.Rows
structure IsLong (bs : List Int) (n : Nat) : Prop where
  n1 : 1 ≤ n
  le : n ≤ bs.length
  bal : Bal (bs.take n)
  far : n < bs.length → ¬ Bal (bs.take (n + 1))
theorem IsLong.unique {bs : List Int} {n n' : Nat} (h : IsLong bs n) (h' : IsLong bs n') : n = n' := by
  rcases Nat.lt_trichotomy n n' with q | q | q
  · exact absurd (Bal.take (n := n + 1) (n' := n') (by omega) h'.bal) (h.far (by have := h'.le; omega))
  · exact q
  · exact absurd (Bal.take (n := n' + 1) (n' := n) (by omega) h.bal) (h'.far (by have := h.le; omega))
inductive PcTo (bs : List Int) : List (Nat × Nat) → Nat → Prop
  | nil : PcTo bs [] 0
  | snoc {l : List (Nat × Nat)} {o n : Nat} : PcTo bs l o → o < bs.length → IsLong (bs.drop o) n → PcTo bs (l ++ [(o, o + n)]) (o + n)
theorem PcTo.le {bs : List Int} {l : List (Nat × Nat)} {o : Nat} (h : PcTo bs l o) : o ≤ bs.length ∧ l.length ≤ o := by
  induction h with
  | nil => simp
  | snoc _ ho hn ih => have := hn.le; have := hn.n1; rw [List.length_drop] at *; simp; omega
theorem PcTo.cases' {bs : List Int} {l : List (Nat × Nat)} {o : Nat} (h : PcTo bs l o) : (l = [] ∧ o = 0) ∨ ∃ l' o' n, l = l' ++ [(o', o' + n)] ∧ o = o' + n ∧ PcTo bs l' o' ∧ o' < bs.length ∧ IsLong (bs.drop o') n := by
  cases h with
  | nil => exact .inl ⟨rfl, rfl⟩
  | snoc h1 h2 h3 => exact .inr ⟨_, _, _, rfl, rfl, h1, h2, h3⟩
theorem PcTo.det {bs : List Int} : ∀ (k : Nat) {l l' : List (Nat × Nat)} {o o' : Nat}, l.length = k → l'.length = k → PcTo bs l o → PcTo bs l' o' → l = l' ∧ o = o'
  | 0, l, l', o, o', h1, h2, p, p' => by
    have e1 : l = [] := List.length_eq_zero_iff.mp h1
    have e2 : l' = [] := List.length_eq_zero_iff.mp h2
    subst e1; subst e2
    rcases p.cases' with ⟨_, rfl⟩ | ⟨a, _, _, e, _⟩
    · rcases p'.cases' with ⟨_, rfl⟩ | ⟨a, _, _, e, _⟩
      · exact ⟨rfl, rfl⟩
      · exact absurd e (by simp)
    · exact absurd e (by simp)
  | k + 1, l, l', o, o', h1, h2, p, p' => by
    rcases p.cases' with ⟨rfl, _⟩ | ⟨a, o1, n, rfl, rfl, q1, q2, q3⟩
    · simp at h1
    · rcases p'.cases' with ⟨rfl, _⟩ | ⟨a', o1', n', rfl, rfl, q1', q2', q3'⟩
      · simp at h2
      · obtain ⟨rfl, rfl⟩ := PcTo.det k (by simpa using h1) (by simpa using h2) q1 q1'
        rw [q3.unique q3']
        exact ⟨rfl, rfl⟩
theorem PcTo.pre {bs : List Int} {l : List (Nat × Nat)} {o : Nat} (h : PcTo bs l o) : ∀ k, k < l.length → ∃ o', PcTo bs (l.take k) o' ∧ o' < bs.length := by
  induction h with
  | nil => intro k hk; simp at hk
  | @snoc l o n h1 h2 h3 ih =>
    intro k hk
    rw [List.length_append] at hk
    by_cases q : k < l.length
    · rw [List.take_append_of_le_length (by omega)]; exact ih k q
    · have : k = l.length := by simp at hk; omega
      subst this
      rw [List.take_append_of_le_length (Nat.le_refl _), List.take_length]
      exact ⟨o, h1, h2⟩
theorem PcTo.unique {bs : List Int} {l l' : List (Nat × Nat)} (h : PcTo bs l bs.length) (h' : PcTo bs l' bs.length) : l = l' := by
  have key : ∀ {l l' : List (Nat × Nat)}, PcTo bs l bs.length → PcTo bs l' bs.length → ¬ l.length < l'.length := fun {l l'} h h' q => by
    obtain ⟨o', h1, h2⟩ := h'.pre l.length q
    have := (PcTo.det l.length rfl (by rw [List.length_take]; omega) h h1).2
    omega
  exact (PcTo.det l.length rfl (by have := key h h'; have := key h' h; omega) h h').1
theorem PcTo.mem {bs : List Int} {l : List (Nat × Nat)} {o : Nat} (h : PcTo bs l o) : ∀ p ∈ l, p.1 < p.2 ∧ p.2 ≤ bs.length ∧ IsLong (bs.drop p.1) (p.2 - p.1) := by
  induction h with
  | nil => simp
  | snoc h1 h2 h3 ih =>
    intro p hp
    rcases List.mem_append.mp hp with z | z
    · exact ih p z
    · rw [List.mem_singleton] at z
      subst z
      have := h3.n1; have := h3.le
      rw [List.length_drop] at this
      exact ⟨by show _ < _ + _; omega, by show _ + _ ≤ _; omega, by show IsLong _ (_ + _ - _); rw [Nat.add_sub_cancel_left]; exact h3⟩
theorem Spn.short {bs : List Int} {a b c d : Int} (h : Spn bs a b c d) (h01 : ∀ b ∈ bs, b = 0 ∨ b = 1) : ∃ t u : Int, 0 ≤ t ∧ t ≤ u ∧ 1 ≤ u ∧ u ≤ bs.length ∧ Even bs t u := by
  obtain ⟨i, m, m1, him, elow⟩ := h.low
  obtain ⟨j, k, k1, hjk, ehigh⟩ := h.high
  have hb := h.b1; have hd := h.d1
  have hW : 0 < b * d := Int.mul_pos (by omega) (by omega)
  have hD := h.lt
  obtain ⟨P, hP⟩ : ∃ P : Nat → Int, ∀ x y : Nat, x ≤ y → cntL bs x (y - x) = P y - P x := ⟨fun x => (bs.take x).sum, fun x y hxy => by rw [cnt_diff, show x + (y - x) = y by omega]⟩
  obtain ⟨F, hF⟩ : ∃ F : Nat → Int, ∀ x, F x = P x * (b * d) - a * d * x := ⟨fun x => P x * (b * d) - a * d * x, fun _ => rfl⟩
  obtain ⟨G, hG⟩ : ∃ G : Nat → Int, ∀ x, G x = P x * (b * d) - c * b * x := ⟨fun x => P x * (b * d) - c * b * x, fun _ => rfl⟩
  have mulr : ∀ {x y z : Int}, x ≤ y → 0 ≤ z → x * z ≤ y * z := fun h1 h2 => Int.mul_le_mul_of_nonneg_right h1 h2
  have eF : ∀ x y : Nat, x ≤ y → (cntL bs x (y - x) - 1) * b * d - a * ((y - x : Nat) : Int) * d = F y - F x - b * d := fun x y hxy => by
    rw [hP x y hxy, hF, hF, show ((y - x : Nat) : Int) = (y : Int) - x by omega]
    have e1 : (P y - P x - 1) * b * d = P y * (b * d) - P x * (b * d) - b * d := by rw [Int.mul_assoc, Int.sub_mul, Int.sub_mul, Int.one_mul]
    have e2 : a * ((y : Int) - x) * d = a * d * y - a * d * x := by rw [Int.mul_sub, Int.sub_mul, Int.mul_right_comm a y d, Int.mul_right_comm a x d]
    omega
  have eG : ∀ x y : Nat, x ≤ y → (cntL bs x (y - x) + 1) * d * b - c * ((y - x : Nat) : Int) * b = G y - G x + b * d := fun x y hxy => by
    rw [hP x y hxy, hG, hG, show ((y - x : Nat) : Int) = (y : Int) - x by omega]
    have e1 : (P y - P x + 1) * d * b = P y * (b * d) - P x * (b * d) + b * d := by rw [Int.mul_assoc, Int.mul_comm d b, Int.add_mul, Int.sub_mul, Int.one_mul]
    have e2 : c * ((y : Int) - x) * b = c * b * y - c * b * x := by rw [Int.mul_sub, Int.sub_mul, Int.mul_right_comm c y b, Int.mul_right_comm c x b]
    omega
  have lows : ∀ x y : Nat, x < y → y ≤ bs.length → F y ≤ F x + b * d := fun x y hxy hy => by
    have := mulr (z := d) (h.lows x (y - x) (by omega) (by omega)) (by omega)
    have := eF x y (by omega)
    omega
  have highs : ∀ x y : Nat, x < y → y ≤ bs.length → G x ≤ G y + b * d := fun x y hxy hy => by
    have := mulr (z := b) (h.highs x (y - x) (by omega) (by omega)) (by omega)
    have := eG x y (by omega)
    omega
  have hlow : F (i + m) = F i + b * d := by
    have e := eF i (i + m) (by omega)
    rw [show i + m - i = m by omega, elow] at e
    omega
  have hhigh : G (j + k) = G j - b * d := by
    have e := eG j (j + k) (by omega)
    rw [show j + k - j = k by omega, ehigh] at e
    omega
  have hFG : ∀ x y : Nat, F y - F x - (G y - G x) = (c * b - a * d) * y - (c * b - a * d) * x := fun x y => by
    rw [hF, hF, hG, hG, Int.sub_mul, Int.sub_mul]; omega
  have Dm : ∀ x y : Nat, x < y → 0 < (c * b - a * d) * (y : Int) - (c * b - a * d) * x := fun x y hxy => by
    rw [← Int.mul_sub]; exact Int.mul_pos (by omega) (by omega)
  -- a pair of places strictly between
  have pick : ∀ x y : Nat, y ≤ bs.length → x ≤ bs.length → 0 < F y - F x → G y - G x < 0 → ∃ t u : Int, 0 ≤ t ∧ t ≤ u ∧ 1 ≤ u ∧ u ≤ bs.length ∧ Even bs t u := fun x y hy hx f g => by
    have hxy : x < y := by
      rcases Nat.lt_trichotomy x y with q | q | q
      · exact q
      · subst q; omega
      · have := Dm y x q; have := hFG x y; omega
    have c01 := cnt01 h01 x (y - x)
    refine ⟨cntL bs x (y - x), ((y - x : Nat) : Int), c01.1, c01.2, by omega, by omega, (h.even (by omega)).mpr ⟨?_, ?_⟩⟩
    · have e := eF x y (by omega)
      have e1 : (cntL bs x (y - x) - 1) * b * d = cntL bs x (y - x) * b * d - b * d := by rw [Int.sub_mul, Int.one_mul, Int.sub_mul]
      have : a * ((y - x : Nat) : Int) * d < cntL bs x (y - x) * b * d := by omega
      exact Int.lt_of_mul_lt_mul_right this (by omega)
    · have e := eG x y (by omega)
      have e1 : (cntL bs x (y - x) + 1) * d * b = cntL bs x (y - x) * d * b + b * d := by rw [Int.add_mul, Int.one_mul, Int.add_mul, Int.mul_comm d b]
      have : cntL bs x (y - x) * d * b < c * ((y - x : Nat) : Int) * b := by omega
      exact Int.lt_of_mul_lt_mul_right this (by omega)
  by_cases f1 : 0 < F (i + m) - F j
  · by_cases g1 : G (i + m) - G j < 0
    · exact pick j (i + m) him (by omega) f1 g1
    · -- (1b)
      by_cases f2 : 0 < F (j + k) - F i
      · by_cases g2 : G (j + k) - G i < 0
        · exact pick i (j + k) hjk (by omega) f2 g2
        · exfalso
          have a1 : i + m < j + k := by
            rcases Nat.lt_trichotomy (i + m) (j + k) with q | q | q
            · exact q
            · rw [q] at g1; omega
            · have := lows _ _ q him; have := hFG (j + k) (i + m); have := Dm _ _ q; omega
          have a2 : j < i := by
            rcases Nat.lt_trichotomy i j with q | q | q
            · have := lows _ _ q (by omega); have := hFG i j; have := Dm _ _ q; omega
            · subst q; omega
            · exact q
          have := highs _ _ a1 hjk
          have := highs _ _ a2 (by omega)
          have := hFG i (i + m); have := Dm i (i + m) (by omega)
          omega
      · exfalso
        have a1 : i + m < j + k := by
          rcases Nat.lt_trichotomy (i + m) (j + k) with q | q | q
          · exact q
          · rw [q] at g1; omega
          · have := lows _ _ q him; have := hFG (j + k) (i + m); have := Dm _ _ q; omega
        have := highs _ _ a1 hjk; have := hFG (i + m) (j + k); have := Dm _ _ a1
        omega
  · by_cases f2 : 0 < F (j + k) - F i
    · by_cases g2 : G (j + k) - G i < 0
      · exact pick i (j + k) hjk (by omega) f2 g2
      · exfalso
        have a1 : i < j := by
          rcases Nat.lt_trichotomy i j with q | q | q
          · exact q
          · subst q; omega
          · have := highs _ _ q (by omega); have := hFG j i; have := Dm _ _ q; omega
        have := lows _ _ a1 (by omega); have := hFG i j; have := Dm _ _ a1
        omega
    · exfalso
      have a1 : i < j := by
        rcases Nat.lt_trichotomy i j with q | q | q
        · exact q
        · subst q; omega
        · have := highs _ _ q (by omega); have := hFG j i; have := Dm _ _ q; omega
      have a2 : j + k < i + m := by
        rcases Nat.lt_trichotomy (j + k) (i + m) with q | q | q
        · exact q
        · rw [q] at f2; omega
        · have := highs _ _ q hjk; have := hFG (i + m) (j + k); have := Dm _ _ q; omega
      have := lows _ _ a1 (by omega)
      have := lows _ _ a2 him
      have := hFG j (j + k); have := Dm j (j + k) (by omega)
      omega
structure IsPl (bs : List Int) (x y : Int) : Prop where
  y1 : 1 ≤ y
  x0 : 0 ≤ x
  xy : x ≤ y
  st : Starts x y bs
  least : ∀ t u : Int, 0 ≤ t → t ≤ u → 1 ≤ u → Starts t u bs → y ≤ u
theorem IsRead.pl {bs : List Int} {x y : Int} (h : IsRead bs x y) : IsPl bs x y := ⟨h.y1, h.x0, h.xy, h.st, h.least⟩
theorem Even.btw {bs : List Int} {x y x' y' p q : Int} (h : Even bs x y) (h' : Even bs x' y') (hy : 1 ≤ y) (hy' : 1 ≤ y') (hq : 1 ≤ q) (h1 : x * q ≤ p * y) (h2 : p * y' ≤ x' * q) : Even bs p q := fun i m m1 hm => by
  obtain ⟨a1, _⟩ := h i m m1 hm
  obtain ⟨_, b2⟩ := h' i m m1 hm
  constructor
  · have s1 : (cntL bs i m - 1) * y * q < x * m * q := Int.mul_lt_mul_of_pos_right a1 (by omega)
    have s2 : x * q * m ≤ p * y * m := Int.mul_le_mul_of_nonneg_right h1 (by omega)
    have e1 : x * m * q = x * q * m := Int.mul_right_comm x m q
    have e2 : p * y * m = p * m * y := Int.mul_right_comm p y m
    have e3 : (cntL bs i m - 1) * y * q = (cntL bs i m - 1) * q * y := Int.mul_right_comm _ y q
    exact Int.lt_of_mul_lt_mul_right (show (cntL bs i m - 1) * q * y < p * m * y by omega) (by omega)
  · have s1 : x' * m * q < (cntL bs i m + 1) * y' * q := Int.mul_lt_mul_of_pos_right b2 (by omega)
    have s2 : p * y' * m ≤ x' * q * m := Int.mul_le_mul_of_nonneg_right h2 (by omega)
    have e1 : x' * m * q = x' * q * m := Int.mul_right_comm x' m q
    have e2 : p * y' * m = p * m * y' := Int.mul_right_comm p y' m
    have e3 : (cntL bs i m + 1) * y' * q = (cntL bs i m + 1) * q * y' := Int.mul_right_comm _ y' q
    exact Int.lt_of_mul_lt_mul_right (show p * m * y' < (cntL bs i m + 1) * q * y' by omega) (by omega)
theorem IsPl.unique {bs : List Int} {x y x' y' : Int} (h01 : ∀ b ∈ bs, b = 0 ∨ b = 1) (hn : 1 ≤ bs.length) (h : IsPl bs x y) (h' : IsPl bs x' y') : x = x' ∧ y = y' := by
  have ey : y = y' := Int.le_antisymm (h.least _ _ h'.x0 h'.xy h'.y1 h'.st) (h'.least _ _ h.x0 h.xy h.y1 h.st)
  subst ey
  refine ⟨?_, rfl⟩
  have key : ∀ {x x' : Int}, IsPl bs x y → IsPl bs x' y → ¬ x < x' := fun {x x'} h h' q => by
    have hy := h.y1; have hx := h.x0; have hx' := h'.xy
    have e := (starts_even ⟨h.x0, h.xy⟩ h.y1 h01).mp h.st
    have e' := (starts_even ⟨h'.x0, h'.xy⟩ h'.y1 h01).mp h'.st
    by_cases z : x = 0
    · subst z
      have e0 : Even bs 0 1 := e.btw e' hy hy (by omega) (by omega) (by omega)
      have := h.least 0 1 (by omega) (by omega) (by omega) ((starts_even ⟨by omega, by omega⟩ (by omega) h01).mpr e0)
      have hy1 : y = 1 := by omega
      subst hy1
      have hx1 : x' = 1 := by omega
      subst hx1
      have q1 := e' 0 1 (by omega) (by omega)
      have q2 := e0 0 1 (by omega) (by omega)
      omega
    · have e0 : Even bs x (y - 1) := e.btw e' hy hy (by omega) (by rw [Int.mul_sub]; omega) (by
        have : (x + 1) * (y - 1) ≤ x' * (y - 1) := Int.mul_le_mul_of_nonneg_right (by omega) (by omega)
        have e2 : (x + 1) * (y - 1) = x * y - x + (y - 1) := by rw [Int.add_mul, Int.mul_sub]; omega
        omega)
      have := h.least x (y - 1) (by omega) (by omega) (by omega) ((starts_even ⟨by omega, by omega⟩ (by omega) h01).mpr e0)
      omega
  have k1 := key h h'
  have k2 := key h' h
  omega
end M

set_option maxHeartbeats 4000000
namespace M
open PySem L2 PyProof.Rows
theorem PcTo.step {bs : List Int} {l : List (Nat × Nat)} {o : Nat} (h : PcTo bs l o) : ∀ (j : Nat) (p : Nat × Nat), l[j]? = some p → PcTo bs (l.take j) p.1 ∧ PcTo bs (l.take (j + 1)) p.2 := by
  induction h with
  | nil => intro j p e; simp at e
  | @snoc l o n h1 h2 h3 ih =>
    intro j p e
    by_cases q : j < l.length
    · rw [List.getElem?_append_left q] at e
      rw [List.take_append_of_le_length (by omega), List.take_append_of_le_length (by omega)]
      exact ih j p e
    · rw [List.getElem?_append_right (by omega)] at e
      have hj : j - l.length = 0 := by
        have := (List.getElem?_eq_some_iff.mp e).1
        simpa using this
      rw [hj] at e
      cases e
      have : j = l.length := by omega
      subst this
      rw [List.take_append_of_le_length (Nat.le_refl _), List.take_length, List.take_of_length_le (by simp)]
      exact ⟨h1, .snoc h1 h2 h3⟩
structure NumsOf (bs : List Int) (l : List (Nat × Nat)) (ps : List (Int × Int)) : Prop where
  len : ps.length = l.length
  pl : ∀ (i : Nat) (p : Nat × Nat) (s : Int × Int), l[i]? = some p → ps[i]? = some s → IsPl ((bs.drop p.1).take (p.2 - p.1)) s.1 s.2 ∧ s.2 ≤ 2000
end M

set_option maxHeartbeats 4000000
namespace M
open PySem L2 PyProof.Rows
def oiO : HO → Bool
  | .own _ => true
  | .ins _ _ _ => true
  | _ => false
structure PlX (X : List Addr) (H : Hp) : Prop where
  old : ∀ a ∈ X, ∃ o, H a = some o ∧ oiO o = true
  pl : ∀ a o, a ∉ X → H a = some o → plO o = true
theorem PlX.of {H : Hp} (h : Pl H) : PlX [] H := ⟨by simp, fun a o _ e => h a o e⟩
theorem PlX.to {H : Hp} (h : PlX [] H) : Pl H := fun a o e => h.pl a o (by simp) e
theorem PlX.off {X : List Addr} {H : Hp} (h : PlX X H) {p : Addr} (hp : H p = none ∨ ∃ o, H p = some o ∧ oiO o = false) : p ∉ X := fun z => by
  obtain ⟨o, e, k⟩ := h.old p z
  rcases hp with hp | ⟨o', e', k'⟩
  · rw [hp] at e; cases e
  · rw [e'] at e; cases e; rw [k] at k'; cases k'
theorem PlX.upd {X : List Addr} {H : Hp} {p : Addr} {o : HO} (h : PlX X H) (ho : plO o = true) (hp : p ∉ X) : PlX X (upd H p o) := by
  refine ⟨fun a ha => ?_, fun a u ha e => ?_⟩
  · rw [upd_ne (show a ≠ p from fun z => hp (by rw [← z]; exact ha))]; exact h.old a ha
  · rw [upd_app] at e
    split at e
    · cases e; exact ho
    · exact h.pl a u ha e
theorem PlX.new {X : List Addr} {H : Hp} {p : Addr} {o : HO} (h : PlX X H) (ho : plO o = true) (hp : H p = none) : PlX X (L2.upd H p o) := h.upd ho (h.off (.inl hp))
theorem PlX.chg {X ex : List Addr} {H H' : Hp} (h : PlX X H) (hl : ∀ a ∈ X, H' a = H a) (hp : ∀ a o, a ∉ X → H' a = some o → plO o = true) : PlX X H' := ⟨fun a ha => by rw [hl a ha]; exact h.old a ha, hp⟩
theorem PlX.nn {X : List Addr} {H : Hp} (h : PlX X H) : ∀ a ∈ X, H a ≠ none := fun a ha => by obtain ⟨o, e, _⟩ := h.old a ha; rw [e]; simp
def spPutP (C : Addr) : Sp := fun vs H Q _ => match vs with
  | [.ref x, .int top] => ∃ dx l below start e rs ps, MkH H C x dx l below start e rs ∧ Parts H rs ps ∧ 0 ≤ top ∧ top ≤ below ∧ rs.length ≤ 1000 ∧ ∀ q H', MkH H' C x dx l below start (stE below e top) (rs ++ [q]) → Parts H' (rs ++ [q]) (ps ++ [(top, stB below e top)]) → Kp [x, l] H H' → (∀ a o, a ∉ [x, dx, l] → H' a = some o → H a = some o ∨ plO o = true) → Q (.int (stB below e top)) H'
  | _ => False
theorem putP_ok {C x dx l : Addr} {below start e top : Int} {rs : List Addr} {ps : List (Int × Int)} {H : Hp} {Q : VK} {E : XK} (m : MkH H C x dx l below start e rs) (P : Parts H rs ps) (h0 : 0 ≤ top) (h1 : top ≤ below) (hl : rs.length ≤ 1000) (k : ∀ q H', MkH H' C x dx l below start (stE below e top) (rs ++ [q]) → Parts H' (rs ++ [q]) (ps ++ [(top, stB below e top)]) → Kp [x, l] H H' → (∀ a o, a ∉ [x, dx, l] → H' a = some o → H a = some o ∨ plO o = true) → Q (.int (stB below e top)) H') : spPutP C [.ref x, .int top] H Q E := ⟨dx, l, below, start, e, rs, ps, m, P, h0, h1, hl, k⟩
def spBackP (C : Addr) : Sp := fun vs H Q _ => match vs with
  | [.ref x] => ∃ dx l below start e rs ps, MkH H C x dx l below start e rs ∧ Parts H rs ps ∧ rs.length ≤ 1000 ∧ (∀ p ∈ ps, p.2 = 0 ∨ p.2 = 1) ∧ 1 ≤ below ∧ below ≤ 1000000 ∧ (∀ p ∈ ps, 0 ≤ p.1 ∧ p.1 ≤ below) ∧ (ps = [] → Q .non H) ∧ ∀ ps0 p H', ps = ps0 ++ [p] → MkH H' C x dx l below start (e + (below * p.2 - p.1)) rs.dropLast → Parts H' rs.dropLast ps0 → Kp [x, l] H H' → (∀ a o, a ∉ [x, dx, l] → H' a = some o → H a = some o ∨ plO o = true) → Q (.int p.1) H'
  | _ => False
theorem backP_ok {C x dx l : Addr} {below start e : Int} {rs : List Addr} {ps : List (Int × Int)} {H : Hp} {Q : VK} {E : XK} (m : MkH H C x dx l below start e rs) (P : Parts H rs ps) (hl : rs.length ≤ 1000) (hb : ∀ p ∈ ps, p.2 = 0 ∨ p.2 = 1) (u1 : 1 ≤ below) (u2 : below ≤ 1000000) (ht : ∀ p ∈ ps, 0 ≤ p.1 ∧ p.1 ≤ below) (k0 : ps = [] → Q .non H) (k : ∀ ps0 p H', ps = ps0 ++ [p] → MkH H' C x dx l below start (e + (below * p.2 - p.1)) rs.dropLast → Parts H' rs.dropLast ps0 → Kp [x, l] H H' → (∀ a o, a ∉ [x, dx, l] → H' a = some o → H a = some o ∨ plO o = true) → Q (.int p.1) H') : spBackP C [.ref x] H Q E := ⟨dx, l, below, start, e, rs, ps, m, P, hl, hb, u1, u2, ht, k0, k⟩
def spBitsP (C : Addr) : Sp := fun vs H Q _ => match vs with
  | [.ref x] => ∃ dx l below start e rs ps, MkH H C x dx l below start e rs ∧ Parts H rs ps ∧ rs.length ≤ 1000 ∧ (∀ p ∈ ps, p.2 = 0 ∨ p.2 = 1) ∧ PlX [x, dx] H ∧ Q (.str (rowS (ps.map Prod.snd))) H
  | _ => False
theorem bitsP_ok {C x dx l : Addr} {below start e : Int} {rs : List Addr} {ps : List (Int × Int)} {H : Hp} {Q : VK} {E : XK} (m : MkH H C x dx l below start e rs) (P : Parts H rs ps) (hl : rs.length ≤ 1000) (hb : ∀ p ∈ ps, p.2 = 0 ∨ p.2 = 1) (hp : PlX [x, dx] H) (k : Q (.str (rowS (ps.map Prod.snd))) H) : spBitsP C [.ref x] H Q E := ⟨dx, l, below, start, e, rs, ps, m, P, hl, hb, hp, k⟩
structure MkR (H : Hp) (C x dx l b c : Addr) (u st : Int) (ts : List Int) : Prop where
  held : ∃ rs, MkH H C x dx l u st (lastE u st ts) rs ∧ Parts H rs (ts.zip (bitsE u st ts))
  px : PlX [x, dx] H
  lc : l ≠ c
theorem MkR.box {H H' : Hp} {C x dx l b c : Addr} {u st T : Int} {ts : List Int} (s : MkR H C x dx l b c u st ts) (bx : Box H b c T) (k : Kp [x, l] H H') : Box H' b c T := by
  obtain ⟨⟨rs, m, P⟩, px, lc⟩ := s
  obtain ⟨ns, t, e1, e2, _⟩ := bx.ex
  refine bx.of ?_ ?_
  · rw [e1]; exact k b _ (by
      intro z
      simp only [List.mem_cons, List.not_mem_nil, or_false] at z
      rcases z with z | z
      · rw [z, m.ins] at e1; cases e1
      · rw [z, m.lst] at e1; cases e1) e1
  · rw [e2]; exact k c _ (by
      intro z
      simp only [List.mem_cons, List.not_mem_nil, or_false] at z
      rcases z with z | z
      · rw [z, m.ins] at e2; cases e2
      · exact lc z.symm) e2
theorem MkR.keep {H H' : Hp} {C x dx l b c q : Addr} {u st : Int} {ts : List Int} {xs : List V} (s : MkR H C x dx l b c u st ts) (k : Kp [x, l] H H') (g : H q = some (.lst xs)) (n : q ≠ l) : H' q = some (.lst xs) := by
  obtain ⟨⟨rs, m, P⟩, px, lc⟩ := s
  exact k q _ (by
    intro z
    simp only [List.mem_cons, List.not_mem_nil, or_false] at z
    rcases z with z | z
    · rw [z, m.ins] at g; cases g
    · exact n z) g
theorem MkR.fresh {H : Hp} {C x dx l b c D : Addr} {u st : Int} {ts : List Int} {o : HO} (s : MkR H C x dx l b c u st ts) (hD : H D = none) (ho : plO o = true) : MkR (upd H D o) C x dx l b c u st ts := by
  obtain ⟨⟨rs, m, P⟩, px, lc⟩ := s
  exact ⟨⟨rs, ⟨upd_keep hD m.ins, upd_keep hD m.own, upd_keep hD m.lst⟩, P.kp ((Kp.refl _ _).new hD)⟩, px.new ho hD, lc⟩
theorem MkR.lst {H : Hp} {C x dx l b c D : Addr} {u st : Int} {ts : List Int} {xs ys : List V} (s : MkR H C x dx l b c u st ts) (hD : H D = some (.lst xs)) (hl : D ≠ l) : MkR (upd H D (.lst ys)) C x dx l b c u st ts := by
  obtain ⟨⟨rs, m, P⟩, px, lc⟩ := s
  have h1 : x ≠ D := fun z => by have := m.ins; rw [z, hD] at this; cases this
  have h2 : dx ≠ D := fun z => by have := m.own; rw [z, hD] at this; cases this
  exact ⟨⟨rs, ⟨by rw [upd_ne h1]; exact m.ins, by rw [upd_ne h2]; exact m.own, by rw [upd_ne (Ne.symm hl)]; exact m.lst⟩, P.updL hD⟩, px.upd rfl (px.off (.inr ⟨_, hD, rfl⟩)), lc⟩
theorem MkR.bits {H : Hp} {C x dx l b c : Addr} {u st : Int} {ts : List Int} {Q : VK} {E : XK} (s : MkR H C x dx l b c u st ts) (hl : ts.length ≤ 1000) (k : Q (.str (rowS (bitsE u st ts))) H) : spBitsP C [.ref x] H Q E := by
  obtain ⟨⟨rs, m, P⟩, px, lc⟩ := s
  have hlen : (ts.zip (bitsE u st ts)).length = ts.length := by rw [List.length_zip, bitsE_len]; omega
  refine bitsP_ok m P (by rw [P.len, hlen]; exact hl) (fun p hp => bits01 u ts st p.2 (List.of_mem_zip hp).2) px ?_
  have : (ts.zip (bitsE u st ts)).map Prod.snd = bitsE u st ts := List.map_snd_zip (by rw [bitsE_len]; exact Nat.le_refl _)
  rw [this]; exact k
theorem MkR.put {H : Hp} {C x dx l b c : Addr} {u st t : Int} {ts : List Int} {Q : VK} {E : XK} (s : MkR H C x dx l b c u st ts) (h0 : 0 ≤ t) (h1 : t ≤ u) (hl : ts.length ≤ 1000) (k : ∀ v H', MkR H' C x dx l b c u st (ts ++ [t]) → Kp [x, l] H H' → Q v H') : spPutP C [.ref x, .int t] H Q E := by
  obtain ⟨⟨rs, m, P⟩, px, lc⟩ := s
  have hlen : (ts.zip (bitsE u st ts)).length = ts.length := by rw [List.length_zip, bitsE_len]; omega
  refine putP_ok m P h0 h1 (by rw [P.len, hlen]; exact hl) fun q H' m' P' k' o' => k _ H' ⟨⟨_, by rw [lastE_snoc]; exact m', ?_⟩, ⟨fun a ha => ?_, fun a o ha e => ?_⟩, lc⟩ k'
  · rw [bitsE_snoc, List.zip_append (by rw [bitsE_len])]; exact P'
  · simp only [List.mem_cons, List.not_mem_nil, or_false] at ha
    rcases ha with rfl | rfl
    · exact ⟨_, m'.ins, rfl⟩
    · exact ⟨_, m'.own, rfl⟩
  · by_cases hal : a = l
    · subst hal; rw [m'.lst] at e; cases e; rfl
    · rcases o' a o (by simp only [List.mem_cons, List.not_mem_nil, or_false, not_or] at ha ⊢; exact ⟨ha.1, ha.2, hal⟩) e with z | z
      · exact px.pl a o ha z
      · exact z
theorem MkR.back {H : Hp} {C x dx l b c : Addr} {u st : Int} {ts : List Int} {Q : VK} {E : XK} (s : MkR H C x dx l b c u st ts) (hl : ts.length ≤ 1000) (u1 : 1 ≤ u) (u2 : u ≤ 1000000) (ht : ∀ t ∈ ts, 0 ≤ t ∧ t ≤ u) (k : ∀ v H', MkR H' C x dx l b c u st ts.dropLast → Kp [x, l] H H' → Q v H') : spBackP C [.ref x] H Q E := by
  have s0 := s
  obtain ⟨⟨rs, m, P⟩, px, lc⟩ := s
  have hlen : (ts.zip (bitsE u st ts)).length = ts.length := by rw [List.length_zip, bitsE_len]; omega
  refine backP_ok m P (by rw [P.len, hlen]; exact hl) (fun p hp => bits01 u ts st p.2 (List.of_mem_zip hp).2) u1 u2 (fun p hp => ht p.1 (List.of_mem_zip hp).1) (fun h0 => ?_) fun ps0 p H' hps m' P' k' o' => ?_
  · have : ts = [] := List.length_eq_zero_iff.mp (by rw [← hlen, h0]; rfl)
    subst this
    exact k _ H s0 (Kp.refl _ _)
  · obtain ⟨ts0, t, rfl⟩ : ∃ ts0 t, ts = ts0 ++ [t] := by
      rcases List.eq_nil_or_concat ts with z | ⟨ts0, t, z⟩
      · rw [z] at hps; simp at hps
      · exact ⟨ts0, t, by rw [z, List.concat_eq_append]⟩
    rw [bitsE_snoc, List.zip_append (by rw [bitsE_len])] at hps
    have hps' := List.append_inj hps (by
      have := congrArg List.length hps
      simp at this
      simpa using this)
    obtain ⟨e1, e2⟩ := hps'
    have e2 : p = (t, stB u (lastE u st ts0) t) := by simpa using e2.symm
    subst e2
    have hd : (ts0 ++ [t]).dropLast = ts0 := by simp
    have hsum := st_sum u (lastE u st ts0) t
    refine k _ H' ⟨⟨_, ?_, by rw [hd, e1]; exact P'⟩, ⟨fun a ha => ?_, fun a o ha e => ?_⟩, lc⟩ k'
    · rw [hd]
      have : lastE u st (ts0 ++ [t]) + (u * stB u (lastE u st ts0) t - t) = lastE u st ts0 := by rw [lastE_snoc]; omega
      rw [← this]; exact m'
    · simp only [List.mem_cons, List.not_mem_nil, or_false] at ha
      rcases ha with rfl | rfl
      · exact ⟨_, m'.ins, rfl⟩
      · exact ⟨_, m'.own, rfl⟩
    · by_cases hal : a = l
      · subst hal; rw [m'.lst] at e; cases e; rfl
      · rcases o' a o (by simp only [List.mem_cons, List.not_mem_nil, or_false, not_or] at ha ⊢; exact ⟨ha.1, ha.2, hal⟩) e with z | z
        · exact px.pl a o ha z
        · exact z
end M

set_option maxHeartbeats 4000000
namespace HT
open PySem PySem.Spec PyProof.Rows
section
variable {prog : Program} {w : World} {A : Around} {E : Value → Shared → Prop} {s : Shared}
end
end HT
namespace L2
open PySem PySem.Spec PyProof.Rows
section
variable {X : Cx}
end
end L2

set_option maxHeartbeats 4000000
namespace HT
open PySem PySem.Spec PyProof.Rows
section
variable {prog : Program} {w : World} {A : Around} {E : Value → Shared → Prop} {s : Shared}
end
end HT
namespace L2
open PySem PySem.Spec PyProof.Rows
section
variable {X : Cx}
def catW (a b : Addr) (H : Hp) (Q : VK) : Option HO → Option HO → Prop
  | some (.lst xs), some (.lst ys) => xs.length + ys.length ≤ sizeLine ∧ ∀ p, H p = none → Q (.ref p) (upd H p (.lst (xs ++ ys)))
  | some (.tup xs), some (.tup ys) => xs.length + ys.length ≤ sizeLine ∧ (xs = [] → Q (.ref b) H) ∧ (xs ≠ [] → ys = [] → Q (.ref a) H) ∧ (xs ≠ [] → ys ≠ [] → ∀ p, H p = none → Q (.ref p) (upd H p (.tup (xs ++ ys))))
  | _, _ => False
def rAddW : R2 := fun x y H Q => match x, y with
  | .int i, .int j => Q (.int (i + j)) H
  | .str a, .str b => a.length + b.length ≤ sizeLine ∧ Q (.str (a ++ b)) H
  | .ref a, .ref b => catW a b H Q (H a) (H b)
  | _, _ => False
section
variable {H : Hp} {Q : VK} {i j : Int} {x y : Str} {a b : Addr} {xs ys : List V}
theorem e_addW_ii : rAddW (.int i) (.int j) H Q = Q (.int (i + j)) H := rfl
theorem e_addW_ss : rAddW (.str x) (.str y) H Q = (x.length + y.length ≤ sizeLine ∧ Q (.str (x ++ y)) H) := rfl
theorem e_addW_rr : rAddW (.ref a) (.ref b) H Q = catW a b H Q (H a) (H b) := rfl
theorem e_catW_l : catW a b H Q (some (.lst xs)) (some (.lst ys)) = (xs.length + ys.length ≤ sizeLine ∧ ∀ p, H p = none → Q (.ref p) (upd H p (.lst (xs ++ ys)))) := rfl
theorem e_catW_t : catW a b H Q (some (.tup xs)) (some (.tup ys)) = (xs.length + ys.length ≤ sizeLine ∧ (xs = [] → Q (.ref b) H) ∧ (xs ≠ [] → ys = [] → Q (.ref a) H) ∧ (xs ≠ [] → ys ≠ [] → ∀ p, H p = none → Q (.ref p) (upd H p (.tup (xs ++ ys))))) := rfl
end
end
end L2
namespace M
open PySem L2 PyProof.Rows
def ExOk (ex : List Addr) (H : Hp) : Prop := ∀ e ∈ ex, H e ≠ none
theorem ExOk.kp {ex : List Addr} {H H' : Hp} (h : ExOk ex H) (k : Kp [] H H') : ExOk ex H' := fun e he z => by
  have := h e he
  cases g : H e with
  | none => exact this g
  | some o => rw [k.at' g] at z; cases z
theorem ExOk.box {ex : List Addr} {b c : Addr} {T : Int} {H H' : Hp} (h : ExOk ex H) (k : Kp [b, c] H H') (x : Box H' b c T) : ExOk ex H' := fun e he z => by
  have n := x.ne_new z
  have := h e he
  cases g : H e with
  | none => exact this g
  | some o => rw [k e o (by simp [n.1, n.2]) g] at z; cases z
theorem Sq.sub {ex ey : List Addr} {H H' : Hp} (k : Sq ex H H') (s : ∀ a ∈ ex, a ∈ ey) : Sq ey H H' := fun q xs h n => k q xs h fun z => n (s q z)
theorem PartV.sub {K : PySem.W.Frag} {H : Hp} {ex ey : List Addr} {n w : Nat} {v : V} {d : PyData} (s : PartV K H ey n w v d) (h : ∀ a ∈ ex, a ∈ ey) : PartV K H ex n w v d :=
  ⟨s.sw, fun H2 k2 => s.dp H2 (k2.sub h), fun H2 k2 => s.kv H2 (k2.sub h), fun H2 k2 => s.kl H2 (k2.sub h)⟩
def TqL (ex : List Addr) (H : Hp) (q : Addr) (L : Nat) : Prop := ∃ xs, H q = some (.tup xs) ∧ q ∉ ex ∧ (∀ x ∈ xs, ∃ n : Int, x = .int n ∧ n.natAbs ≤ 10 ^ 20) ∧ xs.length ≤ L
theorem TqL.kp {ex ey : List Addr} {H H' : Hp} {q : Addr} {L : Nat} (t : TqL ex H q L) (k : Kp ey H H') (s : ∀ a ∈ ey, a ∈ ex) : TqL ex H' q L := by
  obtain ⟨xs, h, n, a, l⟩ := t
  exact ⟨xs, k q _ (fun z => n (s q z)) h, n, a, l⟩
theorem TqL.mono {ex : List Addr} {H : Hp} {q : Addr} {L L' : Nat} (t : TqL ex H q L) (h : L ≤ L') : TqL ex H q L' := by
  obtain ⟨xs, h0, n, a, l⟩ := t
  exact ⟨xs, h0, n, a, Nat.le_trans l h⟩
theorem TqL.part {K : PySem.W.Frag} {ex : List Addr} {H : Hp} {q : Addr} {L : Nat} (t : TqL ex H q L) (hL : L ≤ 10) : ∃ d, PartV K H ex 3 1000000 (.ref q) d := by
  obtain ⟨xs, h0, n, a, l⟩ := t
  refine part_tup h0 (fun x hx => ?_) (by omega) n
  obtain ⟨m, rfl, hm⟩ := a x hx
  exact bent_int hm
def Things (K : PySem.W.Frag) (ex : List Addr) (H : Hp) (xs : List V) : Prop := ∀ x ∈ xs, ∃ d, Spoilt K H ex x d
theorem Things.go {K : PySem.W.Frag} {ex : List Addr} {H H' : Hp} {xs : List V} (t : Things K ex H xs) (k : Sq ex H H') : Things K ex H' xs := fun x hx => by
  obtain ⟨d, hd⟩ := t x hx; exact ⟨d, hd.go k⟩
def TriV (ex : List Addr) (H : Hp) (x : V) : Prop := ∃ (q : Addr) (i j m : Int), x = .ref q ∧ H q = some (.tup [.int i, .int j, .int m]) ∧ i.natAbs ≤ 1000 ∧ j.natAbs ≤ 1000 ∧ m.natAbs ≤ 1000 ∧ q ∉ ex
theorem TriV.kp {ex : List Addr} {H H' : Hp} {x : V} (t : TriV ex H x) (k : Kp [] H H') : TriV ex H' x := by
  obtain ⟨q, i, j, m, e, g, h⟩ := t
  exact ⟨q, i, j, m, e, k.at' g, h⟩
theorem TriV.upd {ex : List Addr} {H : Hp} {x : V} {E : Addr} {ys : List V} {o : HO} (t : TriV ex H x) (g : H E = some (.lst ys)) : TriV ex (upd H E o) x := by
  obtain ⟨q, i, j, m, e, g', h⟩ := t
  exact ⟨q, i, j, m, e, by rw [upd_ne (fun z => by rw [z, g] at g'; cases g')]; exact g', h⟩
def tOrW (ta tb : TE) : TE := fun σ H Q => ta σ H fun x H1 => truX x H1 fun c H2 => if c = true then Q x H2 else tb σ H2 Q
end M

set_option maxHeartbeats 4000000
namespace PySem.F
open PySem
end PySem.F
namespace M
open PySem PySem.Spec PyProof.Rows L2
structure ZA3 (z TI TO i1 i2 i3 : Addr) : Prop where
  zTI : z ≠ TI
  zTO : z ≠ TO
  zi1 : z ≠ i1
  zi2 : z ≠ i2
  zi3 : z ≠ i3
  TITO : TI ≠ TO
  TIi1 : TI ≠ i1
  TIi2 : TI ≠ i2
  TIi3 : TI ≠ i3
  TOi1 : TO ≠ i1
  TOi2 : TO ≠ i2
  TOi3 : TO ≠ i3
  i1i2 : i1 ≠ i2
  i1i3 : i1 ≠ i3
  i2i3 : i2 ≠ i3
section
variable {prog : Program} {w : World} {A : Around} {E : Value → Shared → Prop} {s : Shared}
end
section
variable {prog : Program} {w : World} {A : Around} {E : Value → Shared → Prop} {s : Shared}
end
end M

set_option maxHeartbeats 4000000
namespace M
open PySem PySem.Spec PyProof.Rows L2
def Itz3 (K : PySem.W.Frag) (k1 k2 k3 : SK) : It :=
  ⟨fun i H => ∃ (xs ys zs : List V) (x y v : V), k1.sq K H xs ∧ k2.sq K H ys ∧ k3.sq K H zs ∧ xs[i]? = some x ∧ ys[i]? = some y ∧ zs[i]? = some v,
    fun i H u H' => ∃ T x y v, u = .ref T ∧ H T = none ∧ H' = upd H T (.tup [x, y, v]) ∧ (∀ xs, k1.sq K H xs → xs[i]? = some x) ∧ (∀ ys, k2.sq K H ys → ys[i]? = some y) ∧ ∀ zs, k3.sq K H zs → zs[i]? = some v,
    fun i H => ∃ xs ys zs : List V, k1.sq K H xs ∧ k2.sq K H ys ∧ k3.sq K H zs ∧ (xs.length ≤ i ∨ ys.length ≤ i ∨ zs.length ≤ i)⟩
def iZip3 (K : PySem.W.Frag) (ta : TA) : TI := fun σ H R => ta σ H fun vs H1 => ∃ (k1 k2 k3 : SK) (xs ys zs : List V), vs = [k1.v, k2.v, k3.v] ∧ k1.sq K H1 xs ∧ k2.sq K H1 ys ∧ k3.sq K H1 zs ∧ R (Itz3 K k1 k2 k3) H1
def forZ3 (K : PySem.W.Frag) (g : TG) (tb : TS) (D : Ends) (σ : L2.St) (x y z : V) (H1 : Hp) : Prop := ∃ (k1 k2 k3 : SK) (xs ys zs : List V), [x, y, z] = [k1.v, k2.v, k3.v] ∧ k1.sq K H1 xs ∧ k2.sq K H1 ys ∧ k3.sq K H1 zs ∧ itB K (Itz3 K k1 k2 k3) g tb D σ H1
section
variable {K : PySem.W.Frag} {g : TG} {tb : TS} {D : Ends} {σ : L2.St} {H : Hp}
theorem e_forZ3 {ta tc td : TE} : tFor (iZip3 K (tCons ta (tCons tc (tCons td tNil)))) g tb D σ H = ta σ H fun x H1 => tc σ H1 fun y H2 => td σ H2 fun z H3 => forZ3 K g tb D σ x y z H3 := rfl
end
end M

set_option maxHeartbeats 4000000
namespace M
open PySem PySem.Spec PyProof.Rows L2
section
variable {X : Cx}
end
def SmW (K : PySem.W.Frag) (H : Hp) : Nat → V → V → Prop
  | 0, _, _ => False
  | n + 1, x, y => (x = y ∧ flt x = true) ∨
      (∃ a b xs ys, x = .ref a ∧ y = .ref b ∧ H a = some (.lst xs) ∧ H b = some (.lst ys) ∧ xs.length = ys.length ∧ xs.length ≤ 1000000 ∧ ∀ (i : Nat) (x y : V), xs[i]? = some x → ys[i]? = some y → SmW K H n x y) ∨
      ∃ a b xs ys, x = .ref a ∧ y = .ref b ∧ (H a = some (.tup xs) ∨ ∀ HX, SqT K HX a xs) ∧ H b = some (.tup ys) ∧ xs.length = ys.length ∧ xs.length ≤ 1000000 ∧ ∀ (i : Nat) (x y : V), xs[i]? = some x → ys[i]? = some y → SmW K H n x y
theorem SmW.kp {K : PySem.W.Frag} {H H' : Hp} (k : Kp [] H H') : ∀ {n : Nat} {x y : V}, SmW K H n x y → SmW K H' n x y
  | 0, _, _, h => h.elim
  | n + 1, x, y, h => by
    rcases h with h | ⟨a, b, xs, ys, e1, e2, h1, h2, h3, hz, h4⟩ | ⟨a, b, xs, ys, e1, e2, h1, h2, h3, hz, h4⟩
    · exact .inl h
    · exact .inr (.inl ⟨a, b, xs, ys, e1, e2, k a _ (by simp) h1, k b _ (by simp) h2, h3, hz, fun i x y hx hy => SmW.kp k (h4 i x y hx hy)⟩)
    · exact .inr (.inr ⟨a, b, xs, ys, e1, e2, h1.imp (fun h1 => k a _ (by simp) h1) id, k b _ (by simp) h2, h3, hz, fun i x y hx hy => SmW.kp k (h4 i x y hx hy)⟩)
def spSameW (K : PySem.W.Frag) : Nat → Sp
  | 0 => fun _ _ _ _ => False
  | n + 1 => fun vs H Q _ => match vs with
    | [x, y] => SmW K H (n + 1) x y ∧ Pl H ∧ Q (.bl true) H
    | _ => False
theorem e_sameW {K : PySem.W.Frag} {n : Nat} {x y : V} {H : Hp} {Q : VK} {E : XK} : spSameW K (n + 1) [x, y] H Q E = (SmW K H (n + 1) x y ∧ Pl H ∧ Q (.bl true) H) := rfl
end M

set_option maxHeartbeats 4000000
namespace M
open PySem PySem.Spec PyProof.Rows L2
def tvS (p : Int × Int) (t : Int) : Int := t + 2 * p.1 - p.2
def tbS (u : Int) (p : Int × Int) (t : Int) : Int := if u ≤ 2 * tvS p t then 1 else 0
def tnS (u : Int) (p : Int × Int) (t : Int) : Int × Int := (tvS p t - u * tbS u p t, p.1)
def stS (u : Int) (ts : List Int) : Nat → Int × Int
  | 0 => (0, 0)
  | n + 1 => tnS u (stS u ts n) (ts.getD n 0)
def StAt (K : PySem.W.Frag) (H : Hp) (q : Addr) (p : Int × Int) : Prop := H q = some (.tup [.int p.1, .int p.2]) ∨ ∀ HX, SqT K HX q [.int p.1, .int p.2]
theorem StAt.kp {K : PySem.W.Frag} {H H' : Hp} {q : Addr} {p : Int × Int} (s : StAt K H q p) (k : Kp [] H H') : StAt K H' q p := s.imp (fun h => k.at' h) id
theorem StAt.sq {K : PySem.W.Frag} {H : Hp} {q : Addr} {p : Int × Int} (s : StAt K H q p) : SqT K H q [.int p.1, .int p.2] := s.elim (fun h => SqT.of h) fun h => h H
theorem StAt.upd {K : PySem.W.Frag} {H : Hp} {q E : Addr} {ys : List V} {o : HO} {p : Int × Int} (s : StAt K H q p) (g : H E = some (.lst ys)) : StAt K (L2.upd H E o) q p :=
  s.imp (fun h => by rw [upd_ne (fun z => by rw [z, g] at h; cases h)]; exact h) id
def Sts (K : PySem.W.Frag) (H : Hp) (u : Int) (ts : List Int) (xs : List V) : Prop := ∀ i x, xs[i]? = some x → ∃ q, x = .ref q ∧ StAt K H q (stS u ts i)
theorem Sts.kp {K : PySem.W.Frag} {H H' : Hp} {u : Int} {ts : List Int} {xs : List V} (s : Sts K H u ts xs) (k : Kp [] H H') : Sts K H' u ts xs := fun i x h => by
  obtain ⟨q, e, z⟩ := s i x h; exact ⟨q, e, z.kp k⟩
theorem Sts.upd {K : PySem.W.Frag} {H : Hp} {u : Int} {ts : List Int} {xs ys : List V} {E : Addr} {o : HO} (s : Sts K H u ts xs) (g : H E = some (.lst ys)) : Sts K (L2.upd H E o) u ts xs := fun i x h => by
  obtain ⟨q, e, z⟩ := s i x h; exact ⟨q, e, z.upd g⟩
theorem Sts.snoc {K : PySem.W.Frag} {H : Hp} {u : Int} {ts : List Int} {xs : List V} {q : Addr} (s : Sts K H u ts xs) (h : StAt K H q (stS u ts xs.length)) : Sts K H u ts (xs ++ [.ref q]) := fun i x hx => by
  by_cases hi : i < xs.length
  · rw [List.getElem?_append_left hi] at hx; exact s i x hx
  · rw [List.getElem?_append_right (by omega)] at hx
    have : i - xs.length = 0 := by
      have := (List.getElem?_eq_some_iff.mp hx).1
      simp at this; omega
    rw [this] at hx
    cases hx
    exact ⟨q, rfl, by rw [show i = xs.length by omega]; exact h⟩
def HSt (H : Hp) (u : Int) (ts : List Int) (xs : List V) : Prop := ∀ i x, xs[i]? = some x → ∃ q, x = .ref q ∧ H q = some (.tup [.int (stS u ts i).1, .int (stS u ts i).2])
theorem HSt.kp {H H' : Hp} {u : Int} {ts : List Int} {xs : List V} (s : HSt H u ts xs) (k : Kp [] H H') : HSt H' u ts xs := fun i x h => by
  obtain ⟨q, e, z⟩ := s i x h; exact ⟨q, e, k.at' z⟩
theorem HSt.upd {H : Hp} {u : Int} {ts : List Int} {xs ys : List V} {E : Addr} {o : HO} (s : HSt H u ts xs) (g : H E = some (.lst ys)) : HSt (L2.upd H E o) u ts xs := fun i x h => by
  obtain ⟨q, e, z⟩ := s i x h; exact ⟨q, e, by rw [upd_ne (fun w => by rw [w, g] at z; cases z)]; exact z⟩
theorem HSt.snoc {H : Hp} {u : Int} {ts : List Int} {xs : List V} {q : Addr} (s : HSt H u ts xs) (h : H q = some (.tup [.int (stS u ts xs.length).1, .int (stS u ts xs.length).2])) : HSt H u ts (xs ++ [.ref q]) := fun i x hx => by
  by_cases hi : i < xs.length
  · rw [List.getElem?_append_left hi] at hx; exact s i x hx
  · rw [List.getElem?_append_right (by omega)] at hx
    have : i - xs.length = 0 := by
      have := (List.getElem?_eq_some_iff.mp hx).1
      simp at this; omega
    rw [this] at hx
    cases hx
    exact ⟨q, rfl, by rw [show i = xs.length by omega]; exact h⟩
end M

set_option maxHeartbeats 4000000
namespace PySem
open Sem (wp)
section
variable {prog : Program} {w : World} {K : Type} [DecidableEq K] {knd : HeapKind prog w K} {A : Around} {E : Value → Shared → Prop} {s : Shared}
end
end PySem
namespace L2
open PySem PySem.Spec PyProof.Rows
section
variable {X : Cx} {pins : List (Addr × Obj)} {σ : St} {H : Hp} {s : Shared} {a : Addr} {y v : V} {u r : Value} {A : Around} {E : Value → Shared → Prop}
end
end L2
namespace L2
open PySem PySem.Spec PyProof.Rows
def tDDef (td ty tx : TE) : TE := fun σ H Q => td σ H fun x H1 => ∃ a, x = .ref a ∧ IsD H1 a ∧ ty σ H1 fun y H2 => tx σ H2 fun z H3 => ∃ kvs k b, H3 a = some (.dT kvs) ∧ y = .ref b ∧ H3 b = some (.tup (k.map kV)) ∧ kvs.length < sizeLine ∧
  (∀ v, valV kvs k = some v → Q v H3) ∧ (valV kvs k = none → Q z (upd H3 a (.dT (putK kvs k z))))
section
variable {X : Cx} {o e f : Expr} {apos cpos : Pos} {td ty tx : TE}
end
end L2

set_option maxHeartbeats 4000000
namespace M
open PySem PySem.Spec PyProof.Rows L2
abbrev IsZipF (h : Heap) (z TI TO : Addr) (f0 f1 : Value) : Prop :=
  h.get? z = some { cls := .type "zip", dict := none, data := .fields #[f0, f1, .bool false, .ref TI, .ref TO], slots := #[] }
def OwnV (f0 f1 : Value) : Prop := (f0 = .none ∨ ∃ a : Addr, f0 = rawInt a) ∧ ∃ b, f1 = .bool b
section
variable {prog : Program} {w : World} {A : Around} {E : Value → Shared → Prop} {s : Shared}
end
end M

set_option maxHeartbeats 4000000
namespace M
open PySem PySem.Spec PyProof.Rows L2
structure EzF (h : Heap) (P : Addr) (x y : Value) (n : Nat) (z TI TO i1 i2 : Addr) (S1 S2 : Src) (k : Nat) : Prop where
  zp : ∃ f0 f1, IsZipF h z TI TO f0 f1 ∧ OwnV f0 f1
  to : ∃ u v, IsPair h TO u v
  i1 : S1.itr i1 k h
  i2 : S2.itr i2 k h
  pr : IsPair h P x y
  sz : h.objs.size = n
section
variable {prog : Program} {w : World} {A : Around} {E : Value → Shared → Prop} {s : Shared}
end
def Itez (K : PySem.W.Frag) (k1 k2 : SK) : It :=
  ⟨fun i H => ∃ (xs ys : List V) (x y : V), k1.sq K H xs ∧ k2.sq K H ys ∧ xs[i]? = some x ∧ ys[i]? = some y,
    fun i H v H' => ∃ (P T : Addr) (x y : V), v = .ref T ∧ H P = none ∧ H T = none ∧ T ≠ P ∧ H' = upd (upd H P (.tup [x, y])) T (.tup [.int (i : Nat), .ref P]) ∧ (∀ xs, k1.sq K H xs → xs[i]? = some x) ∧ ∀ ys, k2.sq K H ys → ys[i]? = some y,
    fun i H => ∃ xs ys : List V, k1.sq K H xs ∧ k2.sq K H ys ∧ (xs.length ≤ i ∨ ys.length ≤ i)⟩
end M

set_option maxHeartbeats 4000000
namespace M
open PySem PySem.Spec PyProof.Rows L2
section
variable {prog : Program} {w : World} {A : Around} {E : Value → Shared → Prop} {s : Shared}
end
def iEz (K : PySem.W.Frag) (ta : TA) : TI := fun σ H R => ta σ H fun vs H1 => ∃ (k1 k2 : SK) (xs ys : List V), vs = [k1.v, k2.v] ∧ k1.sq K H1 xs ∧ k2.sq K H1 ys ∧ R (Itez K k1 k2) H1
def forEz (K : PySem.W.Frag) (g : TG) (tb : TS) (D : Ends) (σ : L2.St) (x y : V) (H1 : Hp) : Prop := ∃ (k1 k2 : SK) (xs ys : List V), [x, y] = [k1.v, k2.v] ∧ k1.sq K H1 xs ∧ k2.sq K H1 ys ∧ itB K (Itez K k1 k2) g tb D σ H1
section
variable {K : PySem.W.Frag} {g : TG} {tb : TS} {D : Ends} {σ : L2.St} {H : Hp}
theorem e_forEz {ta tc : TE} : tFor (iEz K (tCons ta (tCons tc tNil))) g tb D σ H = ta σ H fun x H1 => tc σ H1 fun y H2 => forEz K g tb D σ x y H2 := rfl
end
end M

set_option maxHeartbeats 4000000
namespace M
open PySem L2 PyProof.Rows
end M

set_option maxHeartbeats 4000000
namespace M
open PySem PySem.Spec PyProof.Rows L2
section
variable {prog : Program} {w : World} {A : Around} {R : Result → Shared → Prop} {I : Addr} {fp wr : List Addr} {n : Nat} {Pi : Nat → Value → Prop} {St : Nat → Heap → Prop} {E : Value → Shared → Prop} {s : Shared}
abbrev kwD (d : Value) : List (Str × Value) := [(Str.ofString "default", d)]
theorem up1' {h : Heap} {b : Addr} {u o : Obj} (e : h.get? b = some u) : (h.push o).get? b = some u := Heap.get?_push_of_some _ e
theorem upd_at {h : Heap} {S : Addr} {xs ys : Array Value} {c : Nat} (hg : h.get? S = some { cls := .type "list", data := .seq xs c }) : ∃ c', (h.update S (Obj.mapSeq fun _ => ys)).get? S = some { cls := .type "list", data := .seq ys c' } :=
  ⟨_, get?_update_seq (show h.get? S = some (seqObj "list" xs c) from hg) (fun _ => ys)⟩
theorem upd_off {h : Heap} {S b : Addr} {o : Obj} {f : Obj → Obj} (hb : b ≠ S) (e : h.get? b = some o) : (h.update S f).get? b = some o := by
  rw [Heap.get?_update_ne _ _ _ _ hb]; exact e

theorem max_loopD (W : Walks prog w A.in1 I fp wr n Pi St) (bt : Nat → Nat → Bool) (C : CmpOf prog w A.in1 .Gt Pi bt) (S : Addr) (hS : S ∉ fp) (d : Value) : ∀ (k j : Nat) (s : Shared) (vb : Value) (c : Nat), n - (j + 1) = k → j + 1 ≤ n → St (j + 1) s.heap → Pi (argBest bt j) vb →
    s.heap.get? S = some { cls := .type "list", data := .seq #[vb, vb] c } →
    (∀ (v : Value) (h' : Heap) (tk : Nat), Pi (argBest bt (n - 1)) v → (∀ b o, b ∉ wr → b ≠ S → s.heap.get? b = some o → h'.get? b = some o) → R (.ok (.ret v)) { s with heap := h', toks := tk }) →
    codeAny (model prog w) A (.builtin "max.loop" ⟨[.ref I, .none, .ref S], kwD d⟩) R s := by
  intro k
  induction k with
  | zero =>
    intro j s vb c hk hj hSt hP hg hR
    refine codeAny_builtin PySem.F.entry_max_loop ?_
    show wpAny _ _ (seqItems? (.ref S) >>= _) _ _ _
    refine wpAny_bind (wpAny_seqItems hg rfl ?_)
    show wpAny _ _ (tryCatch (pyNext (.ref I)) _ >>= _) _ _ _
    refine wpAny_bind (wpAny_tryCatch ?_)
    have hjn : j + 1 = n := by omega
    rw [hjn] at hSt
    refine W.done s _ _ hSt fun h' tk hkp => ?_
    have hSw : S ∉ wr := fun x => hS (W.sub S x)
    have hg' := hkp S _ hSw hg
    show wpAny _ _ (updateSeq S (fun _ => #[]) >>= _) _ _ _
    refine wpAny_bind (wpAny_updateSeq hg' rfl ?_)
    refine wpAny_bind (wpAny_letGo (wpAny_pure ?_))
    refine hR vb _ tk (by rw [show n - 1 = j by omega]; exact hP) fun b o hb hbS e => ?_
    exact upd_off hbS (hkp b o hb e)
  | succ k ih =>
    intro j s vb c hk hj hSt hP hg hR
    refine codeAny_builtin PySem.F.entry_max_loop ?_
    show wpAny _ _ (seqItems? (.ref S) >>= _) _ _ _
    refine wpAny_bind (wpAny_seqItems hg rfl ?_)
    show wpAny _ _ (tryCatch (pyNext (.ref I)) _ >>= _) _ _ _
    refine wpAny_bind (wpAny_tryCatch ?_)
    refine W.item (j + 1) s _ _ (by omega) hSt fun v h' tk hv hSt' hkp => ?_
    have hSw : S ∉ wr := fun x => hS (W.sub S x)
    have hg' := hkp S _ hSw hg
    show wpAny _ _ (pure v >>= _) _ _ _
    refine wpAny_bind (wpAny_pure ?_)
    show wpAny _ _ (tryCatch (holding [v, v] (richCompare .Gt v vb >>= _)) _ >>= _) _ _ _
    refine wpAny_bind (wpAny_tryCatch (wpAny_holding ?_))
    refine wpAny_bind (C (j + 1) (argBest bt j) v vb _ _ _ hv hP ?_)
    refine wpAny_bind (wpAny_holding ?_)
    refine wpAny_truthy_bool ?_
    refine wpAny_bind (wpAny_letGo (wpAny_pure ?_))
    have go : ∀ (h2 : Heap) (u : Value) (c' : Nat), (∀ b o, b ≠ S → h'.get? b = some o → h2.get? b = some o) → h2.get? S = some { cls := .type "list", data := .seq #[u, u] c' } → Pi (argBest bt (j + 1)) u →
        codeAny (model prog w) A (.builtin "max.loop" ⟨[.ref I, .none, .ref S], kwD d⟩) R { s with heap := h2, toks := tk } := fun h2 u c' hk2 hg2 hu =>
      ih (j + 1) _ u c' (by omega) (by omega) (W.frame _ _ _ hSt' fun b hb o e => hk2 b o (fun x => hS (x ▸ hb)) e) hu hg2 fun v' h3 tk3 hv' hk3 => hR v' h3 tk3 hv' fun b o hb hbS e => hk3 b o hb hbS (hk2 b o hbS (hkp b o hb e))
    cases hbt : bt (j + 1) (argBest bt j) with
    | true =>
      show wpAny _ _ (updateSeq S (fun _ => #[v, v]) >>= _) _ _ _
      refine wpAny_bind (wpAny_updateSeq hg' rfl ?_)
      refine wpAny_bind (wpAny_letGo (wpAny_pure ⟨rfl, ?_⟩))
      obtain ⟨c', hc'⟩ := upd_at (ys := #[v, v]) hg'
      refine go _ v c' (fun b o hb e => upd_off hb e) hc' ?_
      rw [argBest, hbt]; exact hv
    | false =>
      show wpAny _ _ (letGo [v, v] >>= _) _ _ _
      refine wpAny_bind (wpAny_letGo (wpAny_pure ⟨rfl, ?_⟩))
      refine go h' vb c (fun b o _ e => e) hg' ?_
      rw [argBest, hbt]; exact hP
theorem max_firstD (W : Walks prog w A.in1 I fp wr n Pi St) (bt : Nat → Nat → Bool) (C : CmpOf prog w A.in1 .Gt Pi bt) (S : Addr) (hS : S ∉ fp) (d : Value) {s : Shared} {c : Nat} (hSt : St 0 s.heap)
    (hg : s.heap.get? S = some { cls := .type "list", data := .seq #[] c })
    (h0 : n = 0 → ∀ (h' : Heap) (tk : Nat), (∀ b o, b ∉ wr → b ≠ S → s.heap.get? b = some o → h'.get? b = some o) → R (.ok (.ret d)) { s with heap := h', toks := tk })
    (hR : 0 < n → ∀ (v : Value) (h' : Heap) (tk : Nat), Pi (argBest bt (n - 1)) v → (∀ b o, b ∉ wr → b ≠ S → s.heap.get? b = some o → h'.get? b = some o) → R (.ok (.ret v)) { s with heap := h', toks := tk }) :
    codeAny (model prog w) A (.builtin "max.loop" ⟨[.ref I, .none, .ref S], kwD d⟩) R s := by
  refine codeAny_builtin PySem.F.entry_max_loop ?_
  show wpAny _ _ (seqItems? (.ref S) >>= _) _ _ _
  refine wpAny_bind (wpAny_seqItems hg rfl ?_)
  show wpAny _ _ (tryCatch (pyNext (.ref I)) _ >>= _) _ _ _
  refine wpAny_bind (wpAny_tryCatch ?_)
  have hSw : S ∉ wr := fun x => hS (W.sub S x)
  by_cases hn : n = 0
  · refine W.done s _ _ (by rw [hn]; exact hSt) fun h' tk hkp => ?_
    show wpAny _ _ (rule _ >>= _) _ _ _
    refine wpAny_bind (wpAny_rule (wpAny_pure ?_))
    exact h0 hn h' tk fun b o hb _ e => hkp b o hb e
  · refine W.item 0 s _ _ (by omega) hSt fun v h' tk hv hSt' hkp => ?_
    have hg' := hkp S _ hSw hg
    show wpAny _ _ (pure v >>= _) _ _ _
    refine wpAny_bind (wpAny_pure ?_)
    show wpAny _ _ (updateSeq S (fun _ => #[v, v]) >>= _) _ _ _
    refine wpAny_bind (wpAny_updateSeq hg' rfl (wpAny_pure ⟨rfl, ?_⟩))
    obtain ⟨c', hc'⟩ := upd_at (ys := #[v, v]) hg'
    exact max_loopD W bt C S hS d (n - 1) 0 _ v c' (by omega) (by omega) (W.frame _ _ _ hSt' fun b hb o e => upd_off (fun x => hS (x ▸ hb)) e) hv hc' fun v' h3 tk3 hv' hk3 => hR (by omega) v' h3 tk3 hv' fun b o hb hbS e => hk3 b o hb hbS (upd_off hbS (hkp b o hb e))
theorem args_maxD (x d : Value) : checkBuiltinCall "max" ⟨[x], kwD d⟩ = pure () := by rfl
theorem max_rawD {l : Addr} {its : List Value} {ns : List Int} {d : Value} {Q : Value → Shared → Prop} (hh : A.handled = none) (hl : s.heap.IsList l its.toArray) (hi : IntsAre its ns)
    (h0 : ns = [] → ∀ h' tk, (∀ b o, s.heap.get? b = some o → h'.get? b = some o) → Q d { s with heap := h', toks := tk })
    (h : ∀ h' tk m t', (∀ b o, s.heap.get? b = some o → h'.get? b = some o) → m ∈ ns → (∀ a, a ∈ ns → a ≤ m) → Q (.int m t') { s with heap := h', toks := tk }) : wpAny (model prog w) A (call (.builtin "max") [.ref l] (kwD d)) Q E s := by
  refine wpAny_runValue (codeAny_call_builtin PySem.F.plain_max PySem.F.entry_max ?_)
  rw [args_maxD]
  refine wpAny_pure ?_
  show wpAny _ _ (Builtin.Builtins.bindParams "max" ["key", "default"] 0 ⟨[], kwD d⟩ >>= _) _ _ _
  have eb : Builtin.Builtins.bindParams "max" ["key", "default"] 0 ⟨[], kwD d⟩ = pure [none, some d] := by rfl
  rw [eb]
  refine wpAny_bind (wpAny_pure ?_)
  show wpAny _ _ (pyIter (.ref l) >>= _) _ _ _
  refine wpAny_bind (wpAny_pyIter_list hl ?_)
  refine wpAny_bind (wpAny_newList ?_)
  refine wpAny_pure ⟨rfl, ?_⟩
  have hlt : l < s.heap.objs.size := by obtain ⟨o, e, _⟩ := hl; exact Heap.lt_size e
  have up1 : ∀ o b u, s.heap.get? b = some u → (s.heap.push o).get? b = some u := fun o b u e => Heap.get?_push_of_some _ e
  have hln : its.toArray.size = ns.length := by rw [List.size_toArray]; exact hi.length
  have num : ∀ (i : Nat) (v : Value), its.toArray[i]? = some v → ∃ t, v = .int (ns.getD i 0) t := by
    clear hl h0 h eb up1 hln hlt hh
    induction hi with
    | nil => intro i v e; simp at e
    | cons z t _ ih =>
      intro i v e
      cases i with
      | zero => simp at e; exact ⟨t, e.symm⟩
      | succ i => exact ih i v (by simpa using e)
  generalize hO1 : ({ cls := .type "list_iterator", data := .fields #[.ref l, .int 0 0] } : Obj) = o1
  have hit : (s.heap.push o1).get? s.heap.objs.size = some o1 := Heap.get?_push_size _ (by rw [← hO1]; rfl)
  have hsz : (s.heap.push o1).objs.size = s.heap.objs.size + 1 := by rw [Heap.size_push]
  have WL := Walks.list (prog := prog) (w := w) (A := A.in1) hh s.heap.objs.size l (Nat.ne_of_lt hlt) its.toArray
  refine max_firstD WL (fun i j => decide (ns.getD i 0 > ns.getD j 0)) (CmpOf.ints_gt (fun i => ns.getD i 0) num) (s.heap.push o1).objs.size ?_ d (c := 0) ⟨⟨o1, up1' hit, by rw [← hO1], by rw [← hO1]; rfl⟩, ?_⟩ ?_ ?_ ?_
  · rw [hsz]
    intro hx
    simp only [List.mem_cons, List.not_mem_nil, or_false] at hx
    rcases hx with hx | hx
    · exact absurd hx (Nat.ne_of_gt (Nat.lt_succ_self _))
    · exact absurd hx (Nat.ne_of_gt (Nat.lt_succ_of_lt hlt))
  · obtain ⟨o, e, e2⟩ := hl
    exact ⟨o, up1' (up1 _ _ _ e), e2⟩
  · exact Heap.get?_push_size _ rfl
  · intro hn h' tk hk
    have hns : ns = [] := List.length_eq_zero_iff.mp (by omega)
    refine h0 hns h' tk fun b o e => hk b o ?_ ?_ (up1' (up1 _ _ _ e))
    · rw [List.mem_singleton]; exact Nat.ne_of_lt (Heap.lt_size e)
    · rw [hsz]; exact Nat.ne_of_lt (Nat.lt_succ_of_lt (Heap.lt_size e))
  · intro hn v h' tk hv hk
    obtain ⟨t, rfl⟩ := num _ v hv
    rw [hln] at hn hv ⊢
    obtain ⟨b1, b2⟩ := argBest_gt (fun i => ns.getD i 0) (ns.length - 1)
    refine h h' tk _ t (fun b o e => hk b o ?_ ?_ (up1' (up1 _ _ _ e))) ?_ fun a ha => ?_
    · rw [List.mem_singleton]; exact Nat.ne_of_lt (Heap.lt_size e)
    · rw [hsz]; exact Nat.ne_of_lt (Nat.lt_succ_of_lt (Heap.lt_size e))
    · exact PySem.getD_mem (by omega)
    · obtain ⟨j, hj, rfl⟩ := mem_getD ha
      exact b2 j (by omega)

theorem min_loopD (W : Walks prog w A.in1 I fp wr n Pi St) (bt : Nat → Nat → Bool) (C : CmpOf prog w A.in1 .Lt Pi bt) (S : Addr) (hS : S ∉ fp) (d : Value) : ∀ (k j : Nat) (s : Shared) (vb : Value) (c : Nat), n - (j + 1) = k → j + 1 ≤ n → St (j + 1) s.heap → Pi (argBest bt j) vb →
    s.heap.get? S = some { cls := .type "list", data := .seq #[vb, vb] c } →
    (∀ (v : Value) (h' : Heap) (tk : Nat), Pi (argBest bt (n - 1)) v → (∀ b o, b ∉ wr → b ≠ S → s.heap.get? b = some o → h'.get? b = some o) → R (.ok (.ret v)) { s with heap := h', toks := tk }) →
    codeAny (model prog w) A (.builtin "min.loop" ⟨[.ref I, .none, .ref S], kwD d⟩) R s := by
  intro k
  induction k with
  | zero =>
    intro j s vb c hk hj hSt hP hg hR
    refine codeAny_builtin PySem.F.entry_min_loop ?_
    show wpAny _ _ (seqItems? (.ref S) >>= _) _ _ _
    refine wpAny_bind (wpAny_seqItems hg rfl ?_)
    show wpAny _ _ (tryCatch (pyNext (.ref I)) _ >>= _) _ _ _
    refine wpAny_bind (wpAny_tryCatch ?_)
    have hjn : j + 1 = n := by omega
    rw [hjn] at hSt
    refine W.done s _ _ hSt fun h' tk hkp => ?_
    have hSw : S ∉ wr := fun x => hS (W.sub S x)
    have hg' := hkp S _ hSw hg
    show wpAny _ _ (updateSeq S (fun _ => #[]) >>= _) _ _ _
    refine wpAny_bind (wpAny_updateSeq hg' rfl ?_)
    refine wpAny_bind (wpAny_letGo (wpAny_pure ?_))
    refine hR vb _ tk (by rw [show n - 1 = j by omega]; exact hP) fun b o hb hbS e => ?_
    exact upd_off hbS (hkp b o hb e)
  | succ k ih =>
    intro j s vb c hk hj hSt hP hg hR
    refine codeAny_builtin PySem.F.entry_min_loop ?_
    show wpAny _ _ (seqItems? (.ref S) >>= _) _ _ _
    refine wpAny_bind (wpAny_seqItems hg rfl ?_)
    show wpAny _ _ (tryCatch (pyNext (.ref I)) _ >>= _) _ _ _
    refine wpAny_bind (wpAny_tryCatch ?_)
    refine W.item (j + 1) s _ _ (by omega) hSt fun v h' tk hv hSt' hkp => ?_
    have hSw : S ∉ wr := fun x => hS (W.sub S x)
    have hg' := hkp S _ hSw hg
    show wpAny _ _ (pure v >>= _) _ _ _
    refine wpAny_bind (wpAny_pure ?_)
    show wpAny _ _ (tryCatch (holding [v, v] (richCompare .Lt v vb >>= _)) _ >>= _) _ _ _
    refine wpAny_bind (wpAny_tryCatch (wpAny_holding ?_))
    refine wpAny_bind (C (j + 1) (argBest bt j) v vb _ _ _ hv hP ?_)
    refine wpAny_bind (wpAny_holding ?_)
    refine wpAny_truthy_bool ?_
    refine wpAny_bind (wpAny_letGo (wpAny_pure ?_))
    have go : ∀ (h2 : Heap) (u : Value) (c' : Nat), (∀ b o, b ≠ S → h'.get? b = some o → h2.get? b = some o) → h2.get? S = some { cls := .type "list", data := .seq #[u, u] c' } → Pi (argBest bt (j + 1)) u →
        codeAny (model prog w) A (.builtin "min.loop" ⟨[.ref I, .none, .ref S], kwD d⟩) R { s with heap := h2, toks := tk } := fun h2 u c' hk2 hg2 hu =>
      ih (j + 1) _ u c' (by omega) (by omega) (W.frame _ _ _ hSt' fun b hb o e => hk2 b o (fun x => hS (x ▸ hb)) e) hu hg2 fun v' h3 tk3 hv' hk3 => hR v' h3 tk3 hv' fun b o hb hbS e => hk3 b o hb hbS (hk2 b o hbS (hkp b o hb e))
    cases hbt : bt (j + 1) (argBest bt j) with
    | true =>
      show wpAny _ _ (updateSeq S (fun _ => #[v, v]) >>= _) _ _ _
      refine wpAny_bind (wpAny_updateSeq hg' rfl ?_)
      refine wpAny_bind (wpAny_letGo (wpAny_pure ⟨rfl, ?_⟩))
      obtain ⟨c', hc'⟩ := upd_at (ys := #[v, v]) hg'
      refine go _ v c' (fun b o hb e => upd_off hb e) hc' ?_
      rw [argBest, hbt]; exact hv
    | false =>
      show wpAny _ _ (letGo [v, v] >>= _) _ _ _
      refine wpAny_bind (wpAny_letGo (wpAny_pure ⟨rfl, ?_⟩))
      refine go h' vb c (fun b o _ e => e) hg' ?_
      rw [argBest, hbt]; exact hP
theorem min_firstD (W : Walks prog w A.in1 I fp wr n Pi St) (bt : Nat → Nat → Bool) (C : CmpOf prog w A.in1 .Lt Pi bt) (S : Addr) (hS : S ∉ fp) (d : Value) {s : Shared} {c : Nat} (hSt : St 0 s.heap)
    (hg : s.heap.get? S = some { cls := .type "list", data := .seq #[] c })
    (h0 : n = 0 → ∀ (h' : Heap) (tk : Nat), (∀ b o, b ∉ wr → b ≠ S → s.heap.get? b = some o → h'.get? b = some o) → R (.ok (.ret d)) { s with heap := h', toks := tk })
    (hR : 0 < n → ∀ (v : Value) (h' : Heap) (tk : Nat), Pi (argBest bt (n - 1)) v → (∀ b o, b ∉ wr → b ≠ S → s.heap.get? b = some o → h'.get? b = some o) → R (.ok (.ret v)) { s with heap := h', toks := tk }) :
    codeAny (model prog w) A (.builtin "min.loop" ⟨[.ref I, .none, .ref S], kwD d⟩) R s := by
  refine codeAny_builtin PySem.F.entry_min_loop ?_
  show wpAny _ _ (seqItems? (.ref S) >>= _) _ _ _
  refine wpAny_bind (wpAny_seqItems hg rfl ?_)
  show wpAny _ _ (tryCatch (pyNext (.ref I)) _ >>= _) _ _ _
  refine wpAny_bind (wpAny_tryCatch ?_)
  have hSw : S ∉ wr := fun x => hS (W.sub S x)
  by_cases hn : n = 0
  · refine W.done s _ _ (by rw [hn]; exact hSt) fun h' tk hkp => ?_
    show wpAny _ _ (rule _ >>= _) _ _ _
    refine wpAny_bind (wpAny_rule (wpAny_pure ?_))
    exact h0 hn h' tk fun b o hb _ e => hkp b o hb e
  · refine W.item 0 s _ _ (by omega) hSt fun v h' tk hv hSt' hkp => ?_
    have hg' := hkp S _ hSw hg
    show wpAny _ _ (pure v >>= _) _ _ _
    refine wpAny_bind (wpAny_pure ?_)
    show wpAny _ _ (updateSeq S (fun _ => #[v, v]) >>= _) _ _ _
    refine wpAny_bind (wpAny_updateSeq hg' rfl (wpAny_pure ⟨rfl, ?_⟩))
    obtain ⟨c', hc'⟩ := upd_at (ys := #[v, v]) hg'
    exact min_loopD W bt C S hS d (n - 1) 0 _ v c' (by omega) (by omega) (W.frame _ _ _ hSt' fun b hb o e => upd_off (fun x => hS (x ▸ hb)) e) hv hc' fun v' h3 tk3 hv' hk3 => hR (by omega) v' h3 tk3 hv' fun b o hb hbS e => hk3 b o hb hbS (upd_off hbS (hkp b o hb e))
theorem args_minD (x d : Value) : checkBuiltinCall "min" ⟨[x], kwD d⟩ = pure () := by rfl
theorem min_rawD {l : Addr} {its : List Value} {ns : List Int} {d : Value} {Q : Value → Shared → Prop} (hh : A.handled = none) (hl : s.heap.IsList l its.toArray) (hi : IntsAre its ns)
    (h0 : ns = [] → ∀ h' tk, (∀ b o, s.heap.get? b = some o → h'.get? b = some o) → Q d { s with heap := h', toks := tk })
    (h : ∀ h' tk m t', (∀ b o, s.heap.get? b = some o → h'.get? b = some o) → m ∈ ns → (∀ a, a ∈ ns → m ≤ a) → Q (.int m t') { s with heap := h', toks := tk }) : wpAny (model prog w) A (call (.builtin "min") [.ref l] (kwD d)) Q E s := by
  refine wpAny_runValue (codeAny_call_builtin PySem.F.plain_min PySem.F.entry_min ?_)
  rw [args_minD]
  refine wpAny_pure ?_
  show wpAny _ _ (Builtin.Builtins.bindParams "min" ["key", "default"] 0 ⟨[], kwD d⟩ >>= _) _ _ _
  have eb : Builtin.Builtins.bindParams "min" ["key", "default"] 0 ⟨[], kwD d⟩ = pure [none, some d] := by rfl
  rw [eb]
  refine wpAny_bind (wpAny_pure ?_)
  show wpAny _ _ (pyIter (.ref l) >>= _) _ _ _
  refine wpAny_bind (wpAny_pyIter_list hl ?_)
  refine wpAny_bind (wpAny_newList ?_)
  refine wpAny_pure ⟨rfl, ?_⟩
  have hlt : l < s.heap.objs.size := by obtain ⟨o, e, _⟩ := hl; exact Heap.lt_size e
  have up1 : ∀ o b u, s.heap.get? b = some u → (s.heap.push o).get? b = some u := fun o b u e => Heap.get?_push_of_some _ e
  have hln : its.toArray.size = ns.length := by rw [List.size_toArray]; exact hi.length
  have num : ∀ (i : Nat) (v : Value), its.toArray[i]? = some v → ∃ t, v = .int (ns.getD i 0) t := by
    clear hl h0 h eb up1 hln hlt hh
    induction hi with
    | nil => intro i v e; simp at e
    | cons z t _ ih =>
      intro i v e
      cases i with
      | zero => simp at e; exact ⟨t, e.symm⟩
      | succ i => exact ih i v (by simpa using e)
  generalize hO1 : ({ cls := .type "list_iterator", data := .fields #[.ref l, .int 0 0] } : Obj) = o1
  have hit : (s.heap.push o1).get? s.heap.objs.size = some o1 := Heap.get?_push_size _ (by rw [← hO1]; rfl)
  have hsz : (s.heap.push o1).objs.size = s.heap.objs.size + 1 := by rw [Heap.size_push]
  have WL := Walks.list (prog := prog) (w := w) (A := A.in1) hh s.heap.objs.size l (Nat.ne_of_lt hlt) its.toArray
  refine min_firstD WL (fun i j => decide (ns.getD i 0 < ns.getD j 0)) (CmpOf.ints_lt (fun i => ns.getD i 0) num) (s.heap.push o1).objs.size ?_ d (c := 0) ⟨⟨o1, up1' hit, by rw [← hO1], by rw [← hO1]; rfl⟩, ?_⟩ ?_ ?_ ?_
  · rw [hsz]
    intro hx
    simp only [List.mem_cons, List.not_mem_nil, or_false] at hx
    rcases hx with hx | hx
    · exact absurd hx (Nat.ne_of_gt (Nat.lt_succ_self _))
    · exact absurd hx (Nat.ne_of_gt (Nat.lt_succ_of_lt hlt))
  · obtain ⟨o, e, e2⟩ := hl
    exact ⟨o, up1' (up1 _ _ _ e), e2⟩
  · exact Heap.get?_push_size _ rfl
  · intro hn h' tk hk
    have hns : ns = [] := List.length_eq_zero_iff.mp (by omega)
    refine h0 hns h' tk fun b o e => hk b o ?_ ?_ (up1' (up1 _ _ _ e))
    · rw [List.mem_singleton]; exact Nat.ne_of_lt (Heap.lt_size e)
    · rw [hsz]; exact Nat.ne_of_lt (Nat.lt_succ_of_lt (Heap.lt_size e))
  · intro hn v h' tk hv hk
    obtain ⟨t, rfl⟩ := num _ v hv
    rw [hln] at hn hv ⊢
    obtain ⟨b1, b2⟩ := argBest_lt (fun i => ns.getD i 0) (ns.length - 1)
    refine h h' tk _ t (fun b o e => hk b o ?_ ?_ (up1' (up1 _ _ _ e))) ?_ fun a ha => ?_
    · rw [List.mem_singleton]; exact Nat.ne_of_lt (Heap.lt_size e)
    · rw [hsz]; exact Nat.ne_of_lt (Nat.lt_succ_of_lt (Heap.lt_size e))
    · exact PySem.getD_mem (by omega)
    · obtain ⟨j, hj, rfl⟩ := mem_getD ha
      exact b2 j (by omega)
end
section
variable {X : Cx} {id : String} {x : Str} {r : List V → List V → Hp → VK → Prop} {ks : List Str} {p pos : Pos} {e : Expr} {es : List Expr} {kws : List Keyword} {t : TA} {tk : TA}
def CallKR (X : Cx) (id : String) (ks : List Str) (r : List V → List V → Hp → VK → Prop) : Prop :=
  ∀ (pins : List (Addr × Obj)) (s : Shared) (σ : L2.St) (H : Hp) (xs : List V) (us : List Value) (zs : List V) (ws : List Value) (Q : VK), Inv X pins σ H s → Vals xs us → Vals zs ws → r xs zs H Q →
    wpAny (model X.prog X.w) X.A (call (.builtin id) us (ks.zip ws)) (EP X pins σ Q) X.xe s
def tCBK (r : List V → List V → Hp → VK → Prop) (t tk : TA) : TE := fun σ H Q => t σ H fun vs H1 => tk σ H1 fun zs H2 => r vs zs H2 Q
theorem pe_callBK (hc : CallKR X id ks r) (hg : Gl X x) (hm : X.mg x = none) (hv : bootBuiltins x = some (.builtin id)) (ha : PA X (e :: es) t) (hkw : PK X kws tk)
    (hks : (backToKw pos (keywordEach kws X.env)).filterMap (·.1) = ks := by rfl)
    (hn : x ≠ "__name__" := by decide) (hdb : (x == ("__debug__" : Str)) = false := by decide)
    (he : backTo pos (starEach (e :: es) X.env) = (false, eval e X.env) :: backTo pos (starEach es X.env) := by rfl) (hpl : (backTo pos (starEach (e :: es) X.env)).any (·.1) = false := by rfl)
    (hall : (backToKw pos (keywordEach kws X.env)).all (·.1.isSome) = true := by rfl) (hany : (backToKw pos (keywordEach kws X.env)).any (·.1.isNone) = false := by rfl) :
    PE X (.Call (.Name x p) (e :: es) kws pos) (tCBK r t tk) := by
  intro pins s σ H Q I h
  refine wpAny_Call_Name_kw (ld_blt I hg hm hv ?_ hn hdb)
  refine PyProof.Rows.callWith_kw (thn (ha pos pins s σ H _ I h) fun us s1 ⟨vs, H1, I1, r1, q1⟩ => ?_) he hpl hall hany
  refine thn (hkw pos pins s1 σ H1 _ I1 q1) fun ws s2 ⟨zs, H2, I2, rz, q2⟩ => ?_
  rw [hks]
  exact hc pins s2 σ H2 vs us zs ws Q I2 r1 rz q2
def maxD : List V → List V → Hp → VK → Prop := fun xs zs H Q => match xs, zs with
  | [.ref p], [d] => ∃ ns : List Int, H p = some (.lst (ns.map V.int)) ∧ (ns = [] → Q d H) ∧ ∀ m, m ∈ ns → (∀ y, y ∈ ns → y ≤ m) → Q (.int m) H
  | _, _ => False
def minD : List V → List V → Hp → VK → Prop := fun xs zs H Q => match xs, zs with
  | [.ref p], [d] => ∃ ns : List Int, H p = some (.lst (ns.map V.int)) ∧ (ns = [] → Q d H) ∧ ∀ m, m ∈ ns → (∀ y, y ∈ ns → m ≤ y) → Q (.int m) H
  | _, _ => False
theorem call_maxD (hc : X.calm = true) : CallKR X "max" [Str.ofString "default"] maxD := by
  intro pins s σ H vs us zs ws Q I r rz h
  unfold maxD at h
  split at h
  · rename_i a d
    obtain ⟨ns, hs, q0, q⟩ := h
    obtain ⟨its, rv, hl, _⟩ := I.list (SqL.of hs)
    obtain ⟨u, rfl, ru⟩ := vals1 rz
    rw [Vals.ref1 r]
    exact max_rawD (I.ok.hd hc) hl.isList rv.ints (fun hn h' tk hk => ⟨d, H, I.kept hk, ru, q0 hn⟩) fun h' tk m t' hk h1 h2 => ⟨.int _, H, I.kept hk, ⟨_, rfl⟩, q m h1 h2⟩
  · exact h.elim
theorem call_minD (hc : X.calm = true) : CallKR X "min" [Str.ofString "default"] minD := by
  intro pins s σ H vs us zs ws Q I r rz h
  unfold minD at h
  split at h
  · rename_i a d
    obtain ⟨ns, hs, q0, q⟩ := h
    obtain ⟨its, rv, hl, _⟩ := I.list (SqL.of hs)
    obtain ⟨u, rfl, ru⟩ := vals1 rz
    rw [Vals.ref1 r]
    exact min_rawD (I.ok.hd hc) hl.isList rv.ints (fun hn h' tk hk => ⟨d, H, I.kept hk, ru, q0 hn⟩) fun h' tk m t' hk h1 h2 => ⟨.int _, H, I.kept hk, ⟨_, rfl⟩, q m h1 h2⟩
  · exact h.elim
end
end M

set_option maxHeartbeats 4000000
namespace M
open PySem PySem.Spec PyProof.Rows L2
def inS (i j : Str) : Bool := !(Builtin.Str.occurrences j i 0 j.length 1).isEmpty
section
variable {X : Cx}
def rInS : R2 := fun x y H Q => match x, y with
  | .str i, .str j => Q (.bl (inS i j)) H
  | _, _ => False
def rNinS : R2 := fun x y H Q => match x, y with
  | .str i, .str j => Q (.bl (!inS i j)) H
  | _, _ => False
theorem op_inS : OpR X (compareOp .In) rInS := by
  intro pins s σ H x y v u Q I rx ry h
  unfold rInS at h
  split at h
  · exact op_in_str pins s σ H _ _ v u Q I rx ry ⟨_, _, rfl, rfl, h⟩
  · exact h.elim
theorem op_notInS : OpR X (compareOp .NotIn) rNinS := by
  intro pins s σ H x y v u Q I rx ry h
  unfold rNinS at h
  split at h
  · exact op_notin_str pins s σ H _ _ v u Q I rx ry ⟨_, _, rfl, rfl, h⟩
  · exact h.elim
theorem e_inS {i j : Str} {H : Hp} {Q : VK} : rInS (.str i) (.str j) H Q = Q (.bl (inS i j)) H := rfl
theorem e_ninS {i j : Str} {H : Hp} {Q : VK} : rNinS (.str i) (.str j) H Q = Q (.bl (!inS i j)) H := rfl
end
def has11 : List Int → Bool
  | a :: b :: r => (a == 1 && b == 1) || has11 (b :: r)
  | _ => false
theorem in_sign {c : Nat} {z : Str} : inS ⟨#[c]⟩ z = decide (c ∈ z.cps.toList) := PySem.StrLaws.found_one z c
theorem in_0 {bs : List Int} (h : ∀ b ∈ bs, b = 0 ∨ b = 1) : inS (Str.ofString "0") (rowS bs) = decide ((0 : Int) ∈ bs) := by
  have e : Str.ofString "0" = ⟨#[48]⟩ := by decide
  rw [e, in_sign, row_list _ _ rfl h, decide_eq_decide, List.mem_map]
  constructor
  · rintro ⟨b, hb, e⟩
    rcases h b hb with rfl | rfl
    · exact hb
    · simp [sg1] at e
  · intro hb
    exact ⟨0, hb, rfl⟩
theorem in_1 {bs : List Int} (h : ∀ b ∈ bs, b = 0 ∨ b = 1) : inS (Str.ofString "1") (rowS bs) = decide ((1 : Int) ∈ bs) := by
  have e : Str.ofString "1" = ⟨#[49]⟩ := by decide
  rw [e, in_sign, row_list _ _ rfl h, decide_eq_decide, List.mem_map]
  constructor
  · rintro ⟨b, hb, e⟩
    rcases h b hb with rfl | rfl
    · simp [sg1] at e
    · exact hb
  · intro hb
    exact ⟨1, hb, rfl⟩
theorem has_iff : ∀ {bs : List Int}, (∀ b ∈ bs, b = 0 ∨ b = 1) → (has11 bs = true ↔ ∃ i, ((bs.map sg1).drop i).take 2 = [49, 49])
  | [], _ => by simp [has11]
  | [a], _ => by
    constructor
    · intro h; simp [has11] at h
    · rintro ⟨i, hi⟩
      have := congrArg List.length hi
      simp at this
      omega
  | a :: b :: r, h => by
    have ih := has_iff (bs := b :: r) fun c hc => h c (by simp [hc])
    have ha := h a (by simp)
    have hb := h b (by simp)
    rw [has11, Bool.or_eq_true, ih]
    constructor
    · rintro (hx | ⟨i, hi⟩)
      · rw [Bool.and_eq_true, beq_iff_eq, beq_iff_eq] at hx
        obtain ⟨rfl, rfl⟩ := hx
        exact ⟨0, rfl⟩
      · exact ⟨i + 1, hi⟩
    · rintro ⟨i, hi⟩
      cases i with
      | zero =>
        left
        simp only [List.map_cons, List.drop_zero, List.take_succ_cons, List.take_zero, List.cons.injEq, and_true] at hi
        rcases ha with rfl | rfl <;> rcases hb with rfl | rfl <;> simp [sg1] at hi ⊢
      | succ i => exact .inr ⟨i, hi⟩
theorem in_11 {bs : List Int} (h : ∀ b ∈ bs, b = 0 ∨ b = 1) : inS (Str.ofString "11") (rowS bs) = has11 bs := by
  have hy : TL.tl (Str.ofString "11") ≠ [] := by decide
  have e11 : TL.tl (Str.ofString "11") = [49, 49] := by decide
  have er : TL.tl (rowS bs) = bs.map sg1 := row_list _ _ rfl h
  rw [Bool.eq_iff_iff, has_iff h]
  unfold inS
  rw [PySem.StrLaws.found_iff]
  constructor
  · rintro ⟨i, hi⟩
    have := (TL.at_iff hy i).mp hi
    rw [e11, er] at this
    exact ⟨i, eq_of_beq this⟩
  · rintro ⟨i, hi⟩
    refine ⟨i, (TL.at_iff hy i).mpr ?_⟩
    rw [e11, er]
    exact beq_iff_eq.mpr hi
end M

set_option maxHeartbeats 4000000
namespace M
open PySem PySem.Spec PyProof.Rows L2
def gp : Nat → List Int → List Nat
  | n, [] => [n]
  | n, b :: r => if b = 1 then n :: gp 0 r else gp (n + 1) r
theorem gp_ne : ∀ (bs : List Int) (n : Nat), gp n bs ≠ []
  | [], n => by simp [gp]
  | b :: r, n => by
    rw [gp]; split
    · simp
    · exact gp_ne r (n + 1)
theorem spl_gp : ∀ (bs : List Int) (n : Nat), (∀ b ∈ bs, b = 0 ∨ b = 1) → TL.spl [49] 0 (List.replicate n 48) (bs.map sg1) = (gp n bs).map fun m => List.replicate m 48
  | [], n, _ => by rw [List.map_nil, TL.spl_nil]; rfl
  | b :: r, n, h => by
    have hb := h b (by simp)
    have hr := fun c hc => h c (List.mem_cons_of_mem _ hc)
    rw [List.map_cons]
    rcases hb with rfl | rfl
    · rw [TL.spl_miss (by rfl), gp, if_neg (by decide), ← spl_gp r (n + 1) hr, List.replicate_succ']; rfl
    · rw [TL.spl_hit (by rfl), gp, if_pos rfl, List.map_cons, ← spl_gp r 0 hr]; rfl
theorem row_zeros (m : Nat) : TL.tl (rowS (List.replicate m 0)) = List.replicate m 48 := by
  have e : TL.tl (rowS (List.replicate m 0)) = (List.replicate m (0 : Int)).map sg1 := row_list _ _ rfl (fun b hb => .inl (List.eq_of_mem_replicate hb))
  rw [e, List.map_replicate]; rfl
theorem split_gp {bs : List Int} (h : ∀ b ∈ bs, b = 0 ∨ b = 1) : Txt.split (rowS bs) (Str.ofString "1") = (gp 0 bs).map fun m => rowS (List.replicate m 0) := by
  refine TL.map_tl_inj ?_
  have er : TL.tl (rowS bs) = bs.map sg1 := row_list _ _ rfl h
  have ey : TL.tl (Str.ofString "1") = [49] := by decide
  rw [TL.split_spl _ _ (by rw [ey]; simp) (TL.kind_ok (by decide +kernel)), er, ey, List.map_map]
  have := spl_gp bs 0 h
  rw [List.replicate_zero] at this
  rw [this]
  exact List.map_congr_left fun m _ => (row_zeros m).symm
theorem gp_len : ∀ (bs : List Int) (n : Nat), (∀ b ∈ bs, b = 0 ∨ b = 1) → ((gp n bs).length : Int) = bs.sum + 1
  | [], n, _ => rfl
  | b :: r, n, h => by
    have hr := fun c hc => h c (List.mem_cons_of_mem _ hc)
    rw [gp, List.sum_cons]
    rcases h b (by simp) with rfl | rfl
    · rw [if_neg (by decide), gp_len r (n + 1) hr]; omega
    · rw [if_pos rfl, List.length_cons]
      have := gp_len r 0 hr
      omega
theorem gp_snoc : ∀ (bs : List Int) (n : Nat) (b : Int), gp n (bs ++ [b]) = if b = 1 then gp n bs ++ [0] else (gp n bs).dropLast ++ [(gp n bs).getLastD 0 + 1]
  | [], n, b => by
    rw [List.nil_append]
    show (if b = 1 then n :: [0] else [n + 1]) = _
    split <;> rfl
  | a :: r, n, b => by
    rw [List.cons_append, gp]
    by_cases ha : a = 1
    · rw [if_pos ha, gp_snoc r 0 b]
      have hne := gp_ne r 0
      have e : gp n (a :: r) = n :: gp 0 r := by rw [gp, if_pos ha]
      rw [e]
      split
      · rfl
      · rw [List.dropLast_cons_of_ne_nil hne, List.cons_append, List.getLastD_cons, List.getLastD_eq_getLast?, List.getLastD_eq_getLast?]
        cases hl : (gp 0 r).getLast? with
        | none => exact absurd (List.getLast?_eq_none_iff.mp hl) hne
        | some x => rfl
    · have e : gp n (a :: r) = gp (n + 1) r := by rw [gp, if_neg ha]
      rw [if_neg ha, gp_snoc r (n + 1) b, e]
def gI (bs : List Int) : List Int := (gp 0 bs).map fun (m : Nat) => (m : Int)
def midL (g : List Int) : List Int := (g.drop 1).dropLast
def lo0 (ns : List Int) : Int := ns.min?.getD 0
def hi0 (ns : List Int) : Int := ns.max?.getD 0
theorem lo0_of {ns : List Int} {m : Int} (h1 : m ∈ ns) (h2 : ∀ y ∈ ns, m ≤ y) : m = lo0 ns := by
  have : ns.min? = some m := List.min?_eq_some_iff.mpr ⟨h1, h2⟩
  unfold lo0; rw [this]; rfl
theorem hi0_of {ns : List Int} {m : Int} (h1 : m ∈ ns) (h2 : ∀ y ∈ ns, y ≤ m) : m = hi0 ns := by
  have : ns.max? = some m := List.max?_eq_some_iff.mpr ⟨h1, h2⟩
  unfold hi0; rw [this]; rfl
theorem lo0_le {ns : List Int} {x : Int} (h : x ∈ ns) : lo0 ns ≤ x := by
  unfold lo0
  cases e : ns.min? with
  | none => rw [List.min?_eq_none_iff.mp e] at h; simp at h
  | some m => exact (List.min?_eq_some_iff.mp e).2 x h
def whole (bs : List Int) : List Int := if has11 bs then flipL bs else bs
abbrev StepT := Int × Int × Int × Int
def stepV (s : StepT) : List V := [.int s.1, .int s.2.1, .int s.2.2.1, .int s.2.2.2]
def flipI (bs : List Int) : Int := if has11 bs then 1 else 0
def innerL (m : List Int) : List Int := m.map fun x => if x = lo0 m then 0 else 1
def pressF (bs : List Int) : Option (StepT × List Int) :=
  if (0 : Int) ∉ whole bs ∨ (1 : Int) ∉ whole bs ∨ has11 (whole bs) = true then none
  else if hi0 (midL (gI (whole bs))) > lo0 (midL (gI (whole bs))) + 1 then none
  else some ((flipI bs, lo0 (midL (gI (whole bs))), (gI (whole bs)).headD 0, (gI (whole bs)).getLastD 0), innerL (midL (gI (whole bs))))
theorem whole01 {bs : List Int} (h : ∀ b ∈ bs, b = 0 ∨ b = 1) : ∀ b ∈ whole bs, b = 0 ∨ b = 1 := by
  unfold whole; split
  · exact flip01 h
  · exact h
theorem whole_len (bs : List Int) : (whole bs).length = bs.length := by
  unfold whole; split
  · exact flip_len bs
  · rfl
theorem inner01 (m : List Int) : ∀ b ∈ innerL m, b = 0 ∨ b = 1 := fun b hb => by
  unfold innerL at hb
  obtain ⟨x, _, rfl⟩ := List.mem_map.mp hb
  split
  · exact .inl rfl
  · exact .inr rfl
theorem gI_len {bs : List Int} (h : ∀ b ∈ bs, b = 0 ∨ b = 1) : ((gI bs).length : Int) = bs.sum + 1 := by
  unfold gI; rw [List.length_map]; exact gp_len bs 0 h
theorem mid_len (g : List Int) : (midL g).length = g.length - 2 := by
  unfold midL; rw [List.length_dropLast, List.length_drop]; omega
theorem press_len {bs : List Int} (h : ∀ b ∈ bs, b = 0 ∨ b = 1) {s : StepT} {inner : List Int} (hp : pressF bs = some (s, inner)) : inner.length < bs.length ∧ ∀ b ∈ inner, b = 0 ∨ b = 1 := by
  unfold pressF at hp
  split at hp
  · cases hp
  · rename_i hn
    split at hp
    · cases hp
    · cases hp
      have h1 : (1 : Int) ∈ whole bs := Decidable.byContradiction fun x => hn (.inr (.inl x))
      have hs := sum01 (whole01 h)
      have hl := gI_len (whole01 h)
      have hpos : 0 < (whole bs).length := List.length_pos_of_mem h1
      rw [whole_len] at hs hpos
      refine ⟨?_, inner01 _⟩
      unfold innerL
      rw [List.length_map, mid_len]
      omega
inductive PrC : List Int → List StepT → List Int → Prop
  | nil (bs : List Int) : PrC bs [] bs
  | cons {bs inner : List Int} {s : StepT} {ss : List StepT} {row : List Int} : pressF bs = some (s, inner) → PrC inner ss row → PrC bs (s :: ss) row
theorem PrC.snoc {bs : List Int} {ss : List StepT} {row : List Int} (h : PrC bs ss row) {s : StepT} {inner : List Int} (hp : pressF row = some (s, inner)) : PrC bs (ss ++ [s]) inner := by
  induction h with
  | nil bs => exact .cons hp (.nil _)
  | cons h1 _ ih => exact .cons h1 (ih hp)
theorem PrC.det {bs : List Int} {ss ss' : List StepT} {row row' : List Int} (h : PrC bs ss row) (hn : pressF row = none) (h' : PrC bs ss' row') (hn' : pressF row' = none) : ss = ss' ∧ row = row' := by
  induction h generalizing ss' with
  | nil bs =>
    cases h' with
    | nil => exact ⟨rfl, rfl⟩
    | cons h1 _ => rw [hn] at h1; cases h1
  | cons h1 _ ih =>
    cases h' with
    | nil => rw [hn'] at h1; cases h1
    | cons h2 r2 =>
      rw [h1] at h2; cases h2
      obtain ⟨rfl, rfl⟩ := ih hn r2
      exact ⟨rfl, rfl⟩
theorem PrC.len {bs : List Int} {ss : List StepT} {row : List Int} (h : PrC bs ss row) (h01 : ∀ b ∈ bs, b = 0 ∨ b = 1) : row.length + ss.length ≤ bs.length ∧ ∀ b ∈ row, b = 0 ∨ b = 1 := by
  induction h with
  | nil bs => exact ⟨by simp, h01⟩
  | cons h1 _ ih =>
    have a := press_len h01 h1
    have b := ih a.2
    refine ⟨?_, b.2⟩
    rw [List.length_cons]
    omega
def StepsH (H : Hp) (rs : List Addr) (ss : List StepT) : Prop := rs.length = ss.length ∧ ∀ (i : Nat) (r : Addr) (s : StepT), rs[i]? = some r → ss[i]? = some s → H r = some (.tup (stepV s))
theorem StepsH.nil {H : Hp} : StepsH H [] [] := ⟨rfl, fun i r s h _ => by simp at h⟩
theorem StepsH.imp {H H' : Hp} {rs : List Addr} {ss : List StepT} (h : StepsH H rs ss) (k : ∀ r s, H r = some (.tup (stepV s)) → H' r = some (.tup (stepV s))) : StepsH H' rs ss := ⟨h.1, fun i r s hr hs => k r s (h.2 i r s hr hs)⟩
theorem StepsH.kp {H H' : Hp} {rs : List Addr} {ss : List StepT} (h : StepsH H rs ss) (k : Kp [] H H') : StepsH H' rs ss := h.imp fun r s e => k r _ (by simp) e
theorem StepsH.updL {H : Hp} {p : Addr} {xs : List V} {o : HO} {rs : List Addr} {ss : List StepT} (h : StepsH H rs ss) (hp : H p = some (.lst xs)) : StepsH (upd H p o) rs ss := h.imp fun r s e => by
  rw [upd_ne (fun x => by subst x; rw [hp] at e; cases e)]; exact e
theorem StepsH.snoc {H : Hp} {rs : List Addr} {ss : List StepT} (h : StepsH H rs ss) {r : Addr} {s : StepT} (hr : H r = some (.tup (stepV s))) : StepsH H (rs ++ [r]) (ss ++ [s]) := by
  refine ⟨by simp [h.1], fun i r' s' h1 h2 => ?_⟩
  by_cases hi : i < rs.length
  · rw [List.getElem?_append_left hi] at h1
    rw [List.getElem?_append_left (by rw [← h.1]; exact hi)] at h2
    exact h.2 i r' s' h1 h2
  · have hl := h.1
    rw [List.getElem?_append_right (by omega)] at h1
    rw [List.getElem?_append_right (by omega)] at h2
    have e : i - rs.length = 0 := by
      have := (List.getElem?_eq_some_iff.mp h1).1
      simp at this; omega
    rw [e] at h1; rw [← hl, e] at h2
    simp at h1 h2; subst h1; subst h2; exact hr
theorem StepsH.sms {H : Hp} {rs rs' : List Addr} {ss : List StepT} (h : StepsH H rs ss) (h' : StepsH H rs' ss) : Sms H 2 (rs.map V.ref) (rs'.map V.ref) := by
  refine ⟨by rw [List.length_map, List.length_map, h.1, h'.1], fun i x y hx hy => ?_⟩
  rw [List.getElem?_map] at hx hy
  cases e1 : rs[i]? with
  | none => rw [e1] at hx; cases hx
  | some r =>
    cases e2 : rs'[i]? with
    | none => rw [e2] at hy; cases hy
    | some r' =>
      rw [e1] at hx; rw [e2] at hy; cases hx; cases hy
      have hi : i < ss.length := by rw [← h.1]; exact (List.getElem?_eq_some_iff.mp e1).1
      have a := h.2 i r _ e1 (List.getElem?_eq_getElem hi)
      have b := h'.2 i r' _ e2 (List.getElem?_eq_getElem hi)
      exact Sm.tup a b (by show 4 ≤ 1000000; decide) (Sms.flat fun x hx => by unfold stepV at hx; simp at hx; rcases hx with rfl | rfl | rfl | rfl <;> rfl)
def spFlipW : Sp := fun vs H Q _ => match vs with
  | [.str z] => ∃ bs, z = rowS bs ∧ (∀ b ∈ bs, b = 0 ∨ b = 1) ∧ bs.length ≤ 20000 ∧ Pl H ∧ Q (.str (rowS (flipL bs))) H
  | _ => False
theorem flipW_ok {H : Hp} {Q : VK} {E : XK} {bs : List Int} (h : ∀ b ∈ bs, b = 0 ∨ b = 1) (hl : bs.length ≤ 20000) (hp : Pl H) (q : Q (.str (rowS (flipL bs))) H) : spFlipW [.str (rowS bs)] H Q E := ⟨bs, rfl, h, hl, hp, q⟩
def spPress : Sp := fun vs H Q _ => match vs with
  | [.str z] => ∃ bs, z = rowS bs ∧ (∀ b ∈ bs, b = 0 ∨ b = 1) ∧ bs.length ≤ 20000 ∧ Pl H ∧ (pressF bs = none → Q .non H) ∧
      ∀ s inner, pressF bs = some (s, inner) → ∀ p t H', H p = none → H t = none → H' p = some (.tup [.ref t, .str (rowS inner)]) → H' t = some (.tup (stepV s)) → Kp [] H H' → Pl H' → Q (.ref p) H'
  | _ => False
theorem press_ok {H : Hp} {Q : VK} {E : XK} {bs : List Int} (h : ∀ b ∈ bs, b = 0 ∨ b = 1) (hl : bs.length ≤ 20000) (hp : Pl H) (h0 : pressF bs = none → Q .non H)
    (h1 : ∀ s inner, pressF bs = some (s, inner) → ∀ p t H', H p = none → H t = none → H' p = some (.tup [.ref t, .str (rowS inner)]) → H' t = some (.tup (stepV s)) → Kp [] H H' → Pl H' → Q (.ref p) H') : spPress [.str (rowS bs)] H Q E := ⟨bs, rfl, h, hl, hp, h0, h1⟩
def spPressed : Sp := fun vs H Q _ => match vs with
  | [.str z] => ∃ bs, z = rowS bs ∧ (∀ b ∈ bs, b = 0 ∨ b = 1) ∧ bs.length ≤ 20000 ∧ Pl H ∧
      ∀ ss core, PrC bs ss core → pressF core = none → ∀ p l rs H', H p = none → H l = none → p ≠ l → H' p = some (.tup [.ref l, .str (rowS core)]) → H' l = some (.lst (rs.map V.ref)) → StepsH H' rs ss → Kp [] H H' → Pl H' → Q (.ref p) H'
  | _ => False
theorem pressed_ok {H : Hp} {Q : VK} {E : XK} {bs : List Int} (h : ∀ b ∈ bs, b = 0 ∨ b = 1) (hl : bs.length ≤ 20000) (hp : Pl H)
    (h1 : ∀ ss core, PrC bs ss core → pressF core = none → ∀ p l rs H', H p = none → H l = none → p ≠ l → H' p = some (.tup [.ref l, .str (rowS core)]) → H' l = some (.lst (rs.map V.ref)) → StepsH H' rs ss → Kp [] H H' → Pl H' → Q (.ref p) H') : spPressed [.str (rowS bs)] H Q E := ⟨bs, rfl, h, hl, hp, h1⟩
end M

set_option maxHeartbeats 4000000
namespace M
open PySem PySem.Spec PyProof.Rows L2
theorem gp_le : ∀ (bs : List Int) (n m : Nat), m ∈ gp n bs → m ≤ n + bs.length
  | [], n, m, h => by simp [gp] at h; omega
  | b :: r, n, m, h => by
    rw [gp] at h
    rw [List.length_cons]
    split at h
    · rcases List.mem_cons.mp h with rfl | h
      · omega
      · have := gp_le r 0 m h; omega
    · have := gp_le r (n + 1) m h; omega
theorem cutV_inner {xs : List V} : cutV xs (some 1) (some (-1)) = (xs.drop 1).dropLast := by
  unfold cutV
  have e1 : HT.sIx xs.length 0 (some 1) = min 1 xs.length := by simp only [HT.sIx]; rw [if_neg (by omega)]; omega
  have e2 : HT.sIx xs.length xs.length (some (-1)) = xs.length - 1 := by simp only [HT.sIx]; rw [if_pos (by omega)]; omega
  rw [e1, e2, List.dropLast_eq_take, List.length_drop]
  by_cases h : 1 ≤ xs.length
  · rw [Nat.min_eq_left h]
  · have : xs = [] := List.length_eq_zero_iff.mp (by omega)
    subst this; rfl
theorem mid_ints {g : List Int} : ((g.map V.int).drop 1).dropLast = (midL g).map V.int := by
  unfold midL
  rw [← List.map_drop, List.map_dropLast]
theorem gI_at {bs : List Int} {i m : Nat} (h : (gp 0 bs)[i]? = some m) : (gI bs)[i]? = some (m : Int) := by
  unfold gI; rw [List.getElem?_map, h]; rfl
theorem gI_ne (bs : List Int) : gI bs ≠ [] := fun h => gp_ne bs 0 (List.map_eq_nil_iff.mp h)
theorem headD_at {g : List Int} (h : g ≠ []) : g[0]? = some (g.headD 0) := by
  cases g with
  | nil => exact absurd rfl h
  | cons a r => rfl
theorem lastD_at {g : List Int} (h : g ≠ []) : g.getLast? = some (g.getLastD 0) := by
  rw [List.getLastD_eq_getLast?]
  cases e : g.getLast? with
  | none => exact absurd (List.getLast?_eq_none_iff.mp e) h
  | some x => rfl
theorem min_lo {a : Addr} {ns : List Int} {H : Hp} {Q : VK} (g : H a = some (.lst (ns.map V.int))) (q : Q (.int (lo0 ns)) H) : minD [.ref a] [.int 0] H Q :=
  ⟨ns, g, fun e => by rw [e] at q; exact q, fun m h1 h2 => by rw [lo0_of h1 h2]; exact q⟩
theorem max_hi {a : Addr} {ns : List Int} {H : Hp} {Q : VK} (g : H a = some (.lst (ns.map V.int))) (q : Q (.int (hi0 ns)) H) : maxD [.ref a] [.int 0] H Q :=
  ⟨ns, g, fun e => by rw [e] at q; exact q, fun m h1 h2 => by rw [hi0_of h1 h2]; exact q⟩
def PrV (H : Hp) (bs : List Int) (fv : V) : Prop := (fv = .non ∧ pressF bs = none) ∨ ∃ s inner p t, fv = .ref p ∧ pressF bs = some (s, inner) ∧ H p = some (.tup [.ref t, .str (rowS inner)]) ∧ H t = some (.tup (stepV s))
theorem press_ok2 {H : Hp} {Q : VK} {E : XK} {bs : List Int} (h : ∀ b ∈ bs, b = 0 ∨ b = 1) (hl : bs.length ≤ 20000) (hp : Pl H) (q : ∀ fv H', PrV H' bs fv → Kp [] H H' → Pl H' → Q fv H') : spPress [.str (rowS bs)] H Q E :=
  press_ok h hl hp (fun e => q _ H (.inl ⟨rfl, e⟩) (Kp.refl _ _) hp) fun s inner e p t H' _ _ g1 g2 k pp => q _ H' (.inr ⟨s, inner, p, t, rfl, e, g1, g2⟩) k pp
theorem gI_snoc (bs : List Int) (b : Int) : gI (bs ++ [b]) = if b = 1 then gI bs ++ [0] else (gI bs).dropLast ++ [(gI bs).getLastD 0 + 1] := by
  unfold gI
  rw [gp_snoc]
  split
  · rw [List.map_append]; rfl
  · rw [List.map_append, List.map_dropLast]
    congr 1
    rw [List.getLastD_eq_getLast?, List.getLastD_eq_getLast?, List.getLast?_map]
    cases h : (gp 0 bs).getLast? with
    | none => rfl
    | some x => rfl
theorem ixN_last {n : Nat} (h : 0 < n) : ixN n (-1) = some (n - 1) := by
  unfold ixN
  first
    | (simp; omega)
    | (split <;> first | omega | (split <;> first | omega | (congr 1; omega)))
theorem set_last {α : Type} {xs : List α} (h : xs ≠ []) (v : α) : xs.set (xs.length - 1) v = xs.dropLast ++ [v] := by
  rcases List.eq_nil_or_concat xs with rfl | ⟨l, b, rfl⟩
  · exact absurd rfl h
  · rw [List.concat_eq_append, List.dropLast_concat, List.length_append, List.length_singleton, Nat.add_sub_cancel, List.set_append_right _ _ (Nat.le_refl _), Nat.sub_self]
    rfl
theorem mem0_flip {bs : List Int} : (0 : Int) ∈ flipL bs ↔ (1 : Int) ∈ bs := by
  unfold flipL
  rw [List.mem_map]
  constructor
  · rintro ⟨b, hb, e⟩
    have : b = 1 := by omega
    exact this ▸ hb
  · intro h; exact ⟨1, h, rfl⟩
theorem mem1_flip {bs : List Int} : (1 : Int) ∈ flipL bs ↔ (0 : Int) ∈ bs := by
  unfold flipL
  rw [List.mem_map]
  constructor
  · rintro ⟨b, hb, e⟩
    have : b = 0 := by omega
    exact this ▸ hb
  · intro h; exact ⟨0, h, rfl⟩
theorem whole_both {bs : List Int} : ((0 : Int) ∈ whole bs ∧ (1 : Int) ∈ whole bs) ↔ ((0 : Int) ∈ bs ∧ (1 : Int) ∈ bs) := by
  unfold whole; split
  · rw [mem0_flip, mem1_flip, and_comm]
  · exact Iff.rfl
theorem press_no0 {bs : List Int} (h : ¬ ((0 : Int) ∈ bs ∧ (1 : Int) ∈ bs)) : pressF bs = none := by
  rw [← whole_both] at h
  unfold pressF
  rw [if_pos]
  by_cases h0 : (0 : Int) ∈ whole bs
  · exact .inr (.inl fun h1 => h ⟨h0, h1⟩)
  · exact .inl h0
theorem press_no1 {bs : List Int} (h : has11 (whole bs) = true) : pressF bs = none := by
  unfold pressF; rw [if_pos (.inr (.inr h))]
theorem press_no2 {bs : List Int} (h : hi0 (midL (gI (whole bs))) > lo0 (midL (gI (whole bs))) + 1) : pressF bs = none := by
  unfold pressF
  rw [if_pos h]
  split <;> rfl
theorem press_some {bs : List Int} (h : (0 : Int) ∈ bs ∧ (1 : Int) ∈ bs) (h1 : ¬ has11 (whole bs) = true) (h2 : ¬ hi0 (midL (gI (whole bs))) > lo0 (midL (gI (whole bs))) + 1) :
    pressF bs = some ((flipI bs, lo0 (midL (gI (whole bs))), (gI (whole bs)).headD 0, (gI (whole bs)).getLastD 0), innerL (midL (gI (whole bs)))) := by
  rw [← whole_both] at h
  unfold pressF
  rw [if_neg, if_neg h2]
  rintro (x | x | x)
  · exact x h.1
  · exact x h.2
  · exact h1 x
theorem mul_zeros {n : Int} (h : 0 ≤ n) : Txt.mul (Str.ofString "0") n = rowS (List.replicate n.toNat 0) := by rw [s0, rowS_mul0 (by simp) h, flat_one]
theorem mul_ones {n : Int} (h : 0 ≤ n) : Txt.mul (Str.ofString "1") n = rowS (List.replicate n.toNat 1) := by rw [s1, rowS_mul0 (by simp) h, flat_one]
theorem mulok_0 {n : Int} (h : 0 ≤ n) (h2 : n ≤ 100000) : MulOk (Str.ofString "0") n := mulok0 h (by omega) (by
  have : (Str.ofString "0").length = 1 := by decide
  rw [this]; omega) (by decide)
theorem mulok_1 {n : Int} (h : 0 ≤ n) (h2 : n ≤ 100000) : MulOk (Str.ofString "1") n := mulok0 h (by omega) (by
  have : (Str.ofString "1").length = 1 := by decide
  rw [this]; omega) (by decide)
theorem rep01' {n : Nat} {z : Int} (hz : z = 0 ∨ z = 1) : ∀ b ∈ List.replicate n z, b = 0 ∨ b = 1 := fun b hb => by rw [List.eq_of_mem_replicate hb]; exact hz
theorem same4_ok {H : Hp} {x y : V} {Q : VK} {E : XK} (h : Sm H 4 x y) (hp : Pl H) (q : Q (.bl true) H) : spSame 4 [x, y] H Q E := ⟨h, hp, q⟩
theorem press_sm {H : Hp} {p p' l l' : Addr} {rs rs' : List Addr} {ss : List StepT} {core : List Int} (g : H p = some (.tup [.ref l, .str (rowS core)])) (g' : H p' = some (.tup [.ref l', .str (rowS core)])) (gl : H l = some (.lst (rs.map V.ref))) (gl' : H l' = some (.lst (rs'.map V.ref))) (S : StepsH H rs ss) (S' : StepsH H rs' ss) (hl : ss.length ≤ 20000) : Sm H 4 (.ref p) (.ref p') :=
  Sm.tup g g' (by show 2 ≤ 1000000; decide) (Sms.cons (Sm.lst gl gl' (by rw [List.length_map, S.1]; omega) (S.sms S')) (Sms.cons (Sm.flat rfl) Sms.nil))
def spLong63 : Sp := fun vs H Q _ => match vs with
  | [.ref b] => ∃ c T, Box H b c T ∧ Pl H ∧ T < 900000000 ∧ ∀ (bs : List Int) H', bs.length ≤ 401 → (∀ x ∈ bs, x = 0 ∨ x = 1) → Box H' b c (T + 100) → Kp [b, c] H H' → Pl H' → Q (.str (rowS bs)) H'
  | _ => False
theorem long63_ok {H : Hp} {b c : Addr} {T : Int} {Q : VK} {E : XK} (x : Box H b c T) (hp : Pl H) (hT : T < 900000000) (q : ∀ (bs : List Int) H', bs.length ≤ 401 → (∀ x ∈ bs, x = 0 ∨ x = 1) → Box H' b c (T + 100) → Kp [b, c] H H' → Pl H' → Q (.str (rowS bs)) H') : spLong63 [.ref b] H Q E := ⟨c, T, x, hp, hT, q⟩
end M

--ROOM 10
--OB
--CUTB _law_step
--INS press _law_step
set_option maxHeartbeats 4000000
namespace K63
open PySem L2 M PyProof.Rows
def top (i : Nat) : Stmt := PySem.Challenge.pw_meanbits_k63_rows_pressed.main.body.getD i (.Pass ⟨0, 0, 0, 0⟩)
structure Bl (mg : Str → Option Value) : Prop where
  b_abs : mg "abs" = none
  b_all : mg "all" = none
  b_bool : mg "bool" = none
  b_divmod : mg "divmod" = none
  b_int : mg "int" = none
  b_isinstance : mg "isinstance" = none
  b_len : mg "len" = none
  b_list : mg "list" = none
  b_max : mg "max" = none
  b_min : mg "min" = none
  b_range : mg "range" = none
  b_str : mg "str" = none
  b_tuple : mg "tuple" = none
  b_zip : mg "zip" = none
abbrev s_flipped : Stmt := top 2
abbrev p_flipped : List Str := ["row"]
abbrev n_flipped : List Str := ["row", "bit"]
theorem sc_flipped : FnScope n_flipped p_flipped (defScope s_flipped) := ⟨rfl, rfl, rfl, by decide +kernel, rfl, by decide +kernel, by decide +kernel⟩

abbrev s_press : Stmt := top 4
abbrev p_press : List Str := ["row"]
abbrev n_press : List Str := ["row", "flip", "whole", "noughts", "between", "least", "inner", "run", "many"]
theorem sc_press : FnScope n_press p_press (defScope s_press) := ⟨rfl, rfl, rfl, by decide +kernel, rfl, by decide +kernel, by decide +kernel⟩

abbrev s_pressed : Stmt := top 5
abbrev p_pressed : List Str := ["row"]
abbrev n_pressed : List Str := ["row", "steps", "found", "step"]
theorem sc_pressed : FnScope n_pressed p_pressed (defScope s_pressed) := ⟨rfl, rfl, rfl, by decide +kernel, rfl, by decide +kernel, by decide +kernel⟩

abbrev s_l_begin : Stmt := top 7
abbrev p_l_begin : List Str := ["_law_script"]
abbrev n_l_begin : List Str := ["_law_script", "_law_cells"]
theorem sc_l_begin : FnScope n_l_begin p_l_begin (defScope s_l_begin) := ⟨rfl, rfl, rfl, by decide +kernel, rfl, by decide +kernel, by decide +kernel⟩

abbrev s_l_take : Stmt := top 8
abbrev p_l_take : List Str := ["_law_state", "_law_many"]
abbrev n_l_take : List Str := ["_law_state", "_law_many", "_law_turn", "_law_place", "_law_cell", "_law_digit", "_law_drawn"]
theorem sc_l_take : FnScope n_l_take p_l_take (defScope s_l_take) := ⟨rfl, rfl, rfl, by decide +kernel, rfl, by decide +kernel, by decide +kernel⟩

abbrev s_l_same : Stmt := top 9
abbrev p_l_same : List Str := ["_law_found", "_law_due"]
abbrev n_l_same : List Str := ["_law_found", "_law_due", "_law_one", "_law_other"]
theorem sc_l_same : FnScope n_l_same p_l_same (defScope s_l_same) := ⟨rfl, rfl, rfl, by decide +kernel, rfl, by decide +kernel, by decide +kernel⟩

abbrev s_l_lowest : Stmt := top 10
abbrev p_l_lowest : List Str := ["_law_top", "_law_below"]
abbrev n_l_lowest : List Str := ["_law_top", "_law_below", "_law_one", "_law_other"]
theorem sc_l_lowest : FnScope n_l_lowest p_l_lowest (defScope s_l_lowest) := ⟨rfl, rfl, rfl, by decide +kernel, rfl, by decide +kernel, by decide +kernel⟩

abbrev s_l_share : Stmt := top 11
abbrev p_l_share : List Str := ["_law_state", "_law_most"]
abbrev n_l_share : List Str := ["_law_state", "_law_most", "_law_way", "_law_below", "_law_top"]
theorem sc_l_share : FnScope n_l_share p_l_share (defScope s_l_share) := ⟨rfl, rfl, rfl, by decide +kernel, rfl, by decide +kernel, by decide +kernel⟩

abbrev s_l_steady : Stmt := top 12
abbrev p_l_steady : List Str := ["_law_share_here", "_law_start", "_law_many"]
abbrev n_l_steady : List Str := ["_law_share_here", "_law_start", "_law_many", "_law_row", "_law_error", "_law_step_here"]
theorem sc_l_steady : FnScope n_l_steady p_l_steady (defScope s_l_steady) := ⟨rfl, rfl, rfl, by decide +kernel, rfl, by decide +kernel, by decide +kernel⟩

abbrev s_l_bits : Stmt := top 13
abbrev p_l_bits : List Str := ["_law_state", "_law_many"]
abbrev n_l_bits : List Str := ["_law_state", "_law_many", "_law_way", "_law_row", "_law_step_here"]
theorem sc_l_bits : FnScope n_l_bits p_l_bits (defScope s_l_bits) := ⟨rfl, rfl, rfl, by decide +kernel, rfl, by decide +kernel, by decide +kernel⟩

abbrev s_l_some_bits : Stmt := top 14
abbrev p_l_some_bits : List Str := ["_law_state", "_law_most"]
abbrev n_l_some_bits : List Str := ["_law_state", "_law_most", "_law_way", "_law_many", "_law_share_here", "_law_row", "_law_place"]
theorem sc_l_some_bits : FnScope n_l_some_bits p_l_some_bits (defScope s_l_some_bits) := ⟨rfl, rfl, rfl, by decide +kernel, rfl, by decide +kernel, by decide +kernel⟩

abbrev s_l_step : Stmt := top 15
abbrev p_l_step : List Str := ["_law_row"]
abbrev n_l_step : List Str := ["_law_row", "_law_flip", "_law_lengths", "_law_bit", "_law_between", "_law_least", "_law_length"]
theorem sc_l_step : FnScope n_l_step p_l_step (defScope s_l_step) := ⟨rfl, rfl, rfl, by decide +kernel, rfl, by decide +kernel, by decide +kernel⟩

abbrev s_l_pressed : Stmt := top 16
abbrev p_l_pressed : List Str := ["_law_row"]
abbrev n_l_pressed : List Str := ["_law_row", "_law_steps", "_law_step_here"]
theorem sc_l_pressed : FnScope n_l_pressed p_l_pressed (defScope s_l_pressed) := ⟨rfl, rfl, rfl, by decide +kernel, rfl, by decide +kernel, by decide +kernel⟩

abbrev s_l_long : Stmt := top 17
abbrev p_l_long : List Str := ["_law_state"]
abbrev n_l_long : List Str := ["_law_state", "_law_way", "_law_share_here", "_law_row", "_law_place", "_law_least", "_law_turn"]
theorem sc_l_long : FnScope n_l_long p_l_long (defScope s_l_long) := ⟨rfl, rfl, rfl, by decide +kernel, rfl, by decide +kernel, by decide +kernel⟩

abbrev s_law : Stmt := top 18
abbrev p_law : List Str := ["_law_script"]
abbrev n_law : List Str := ["_law_script", "_law_state", "_law_turn", "_law_flip", "_law_row", "_law_due", "_law_found", "_law_bit"]
theorem sc_law : FnScope n_law p_law (defScope s_law) := ⟨rfl, rfl, rfl, by decide +kernel, rfl, by decide +kernel, by decide +kernel⟩

local macro_rules | `(tactic| walk_at "rd") => `(tactic| first | simp only [L2.start, tSeq, tAsg, tRet, tIfS, tNext, tDrop, tPar, tVar, tC, tOp, tUn, tCall, tCB, tCons, tNil, tTup, tLst, tTest, tNot, tTru, tAnd, tOr, tIf, tAndV, tOrV, tNotX, tB, tSl, tPart, tNoPart, tBX, tBX0, tChain, gName, gCons, gNil, gSub, rI_ii, rI0_ii, rU_i, ex_bl, ex_int, ex_some, ex_two, ex_cons, ex_str, ex_v, nil_and, e_add_ii, e_add_ss, e_add_rr, e_cat, e_mul_ii, e_mul_ri, e_rep, e_ix_s, e_ix_r, e_ixO_l, e_ixO_t, at_0, at_1, e_setX, e_setO_l, e_gTup, e_gTupO, e_len_s, e_len_r, e_lenO_l, e_lenO_t, e_lenO_d, e_abs, e_max, e_min, e_int_i, e_int_b, e_int_s, e_listO_l, e_listO_t, e_divmod, e_all, e_isi, e_eq_ii, e_eq_ss, e_eq_bb, e_ne_ii, e_ne_ss, e_ne_bb, e_tru_n, e_tru_b, e_tru_i, e_tru_s, e_tru_r, e_truO_l, e_truO_t, e_sl_s, e_sl_r, e_slO, e_app, e_appO, e_rev, e_revO, e_tyX_l, e_tyXO_l, e_tyX_s, e_iO_l, e_iO_t, e_upd_same, e_upd_ne, ne_eq, not_false_eq_true, e_isN_n, e_isN_i, e_isN_b, e_isN_s, e_isN_r, e_non, e_tyN_i, e_tyN_b, e_tyN_s, e_tyN_n, e_tyN_r, e_tyO_l, e_tyO_t, e_tyO_d, e_box_turn, e_box_cells, e_box_put, List.map_cons, List.map_nil, List.length_cons, List.length_nil, List.replicate, List.append_nil, List.nil_append, List.cons_append, List.getElem?_cons_zero, List.getElem?_cons_succ, List.set_cons_zero, List.set_cons_succ, Nat.reduceAdd, Nat.reduceSub, ite_t, ite_f, decide_eq_true_eq, reduceIte, true_and, and_true, Bool.not_true, Bool.not_false, m_bool, m_int, m_str, m_list, m_tuple, m_dict, isTab, String.reduceBEq, Bool.and_false, Bool.and_true, Bool.or_false, Bool.false_or, Bool.or_true, Bool.true_or, Bool.false_and, Bool.true_and, decide_true, decide_false, Bool.false_eq_true, reduceCtorEq, e_isi_lt, tAug, e_for, e_forR1, e_forR2, e_forR3, e_sortS, e_addT_ii, e_addT_ss, e_addT_rr, e_catT_l, e_catT_t, e_addW_ii, e_addW_ss, e_addW_rr, e_catW_l, e_catW_t, e_forZ, e_lc, e_lcR1, e_lcR2, e_lcZ, tRv, e_rv, tM1, e_join, e_spl, e_cnt, e_cntO, e_idx, tRaise, tTry, e_forEs, e_mulY_ii, e_mulY_ri, e_mulY_si, tTryS, tTryN, xAsg, xExp, xIf, e_forEl, e_stw, e_maxY_ii, e_maxY_r, e_minY_ii, e_minY_r, e_anyY, e_sumY, tLR1, tLR2, tPar3, ex_three, e_lcEs, e_strY_i, e_listY_r, e_listY_s, e_pop, e_popO, e_popAt, e_ext, e_clr, e_clrO, e_isB, e_isNB, e_lenS, e_lenSO, e_sc, at_2, at_3, e_cntS, tAsg2, e_other, e_lcEl, e_ins, e_insO, tAugS, e_getL, tChain3, tChain4, e_gLst, e_gLstO, tRvY, e_rvY_s, e_rvY_r, e_stp, tOrW, e_forZ3, e_sameW, tDDef, tDNewT, e_forEz, e_inS, e_ninS, tCBK, spGcd] | skip)
local macro_rules | `(tactic| walk_at "rd*") => `(tactic| first | simp only [L2.start, tSeq, tAsg, tRet, tIfS, tNext, tDrop, tPar, tVar, tC, tOp, tUn, tCall, tCB, tCons, tNil, tTup, tLst, tTest, tNot, tTru, tAnd, tOr, tIf, tAndV, tOrV, tNotX, tB, tSl, tPart, tNoPart, tBX, tBX0, tChain, gName, gCons, gNil, gSub, rI_ii, rI0_ii, rU_i, ex_bl, ex_int, ex_some, ex_two, ex_cons, ex_str, ex_v, nil_and, e_add_ii, e_add_ss, e_add_rr, e_cat, e_mul_ii, e_mul_ri, e_rep, e_ix_s, e_ix_r, e_ixO_l, e_ixO_t, at_0, at_1, e_setX, e_setO_l, e_gTup, e_gTupO, e_len_s, e_len_r, e_lenO_l, e_lenO_t, e_lenO_d, e_abs, e_max, e_min, e_int_i, e_int_b, e_int_s, e_listO_l, e_listO_t, e_divmod, e_all, e_isi, e_eq_ii, e_eq_ss, e_eq_bb, e_ne_ii, e_ne_ss, e_ne_bb, e_tru_n, e_tru_b, e_tru_i, e_tru_s, e_tru_r, e_truO_l, e_truO_t, e_sl_s, e_sl_r, e_slO, e_app, e_appO, e_rev, e_revO, e_tyX_l, e_tyXO_l, e_tyX_s, e_iO_l, e_iO_t, e_upd_same, e_upd_ne, ne_eq, not_false_eq_true, e_isN_n, e_isN_i, e_isN_b, e_isN_s, e_isN_r, e_non, e_tyN_i, e_tyN_b, e_tyN_s, e_tyN_n, e_tyN_r, e_tyO_l, e_tyO_t, e_tyO_d, e_box_turn, e_box_cells, e_box_put, List.map_cons, List.map_nil, List.length_cons, List.length_nil, List.replicate, List.append_nil, List.nil_append, List.cons_append, List.getElem?_cons_zero, List.getElem?_cons_succ, List.set_cons_zero, List.set_cons_succ, Nat.reduceAdd, Nat.reduceSub, ite_t, ite_f, decide_eq_true_eq, reduceIte, true_and, and_true, Bool.not_true, Bool.not_false, m_bool, m_int, m_str, m_list, m_tuple, m_dict, isTab, String.reduceBEq, Bool.and_false, Bool.and_true, Bool.or_false, Bool.false_or, Bool.or_true, Bool.true_or, Bool.false_and, Bool.true_and, decide_true, decide_false, Bool.false_eq_true, reduceCtorEq, e_isi_lt, tAug, e_for, e_forR1, e_forR2, e_forR3, e_sortS, e_addT_ii, e_addT_ss, e_addT_rr, e_catT_l, e_catT_t, e_addW_ii, e_addW_ss, e_addW_rr, e_catW_l, e_catW_t, e_forZ, e_lc, e_lcR1, e_lcR2, e_lcZ, tRv, e_rv, tM1, e_join, e_spl, e_cnt, e_cntO, e_idx, tRaise, tTry, e_forEs, e_mulY_ii, e_mulY_ri, e_mulY_si, tTryS, tTryN, xAsg, xExp, xIf, e_forEl, e_stw, e_maxY_ii, e_maxY_r, e_minY_ii, e_minY_r, e_anyY, e_sumY, tLR1, tLR2, tPar3, ex_three, e_lcEs, e_strY_i, e_listY_r, e_listY_s, e_pop, e_popO, e_popAt, e_ext, e_clr, e_clrO, e_isB, e_isNB, e_lenS, e_lenSO, e_sc, at_2, at_3, e_cntS, tAsg2, e_other, e_lcEl, e_ins, e_insO, tAugS, e_getL, tChain3, tChain4, e_gLst, e_gLstO, tRvY, e_rvY_s, e_rvY_r, e_stp, tOrW, e_forZ3, e_sameW, tDDef, tDNewT, e_forEz, e_inS, e_ninS, tCBK, spGcd, *] | skip)
section
variable {P : Program} {w : World} {K : PySem.W.Frag} {mg : Str → Option Value} {base : Heap}
theorem ok_flipped (F : Fn K mg "flipped" s_flipped p_flipped) (T : Bl mg) (OB : Ob w K mg) : Cal P w K mg base "flipped" 1 p_flipped spFlipW := by
  refine F.cal (k := 0) sc_flipped (fun vs H Q E h => ?_) (fun f cdv A outer s H vs Q E hr h => ?_)
  · unfold spFlipW at h; split at h <;> first | rfl | exact h.elim
  · unfold spFlipW at h
    split at h
    · rename_i z
      obtain ⟨bs, rfl, h01, hl, hpl, h⟩ := h
      have hu := hu_of hr
      have hu64 := hr.units
      refine ⟨_, (@pss_one _ _ _ (@ps_ret _ _ _ _ (@pe_joinX _ _ _ _ _ _ _ pe_str (@pe_lc _ _ _ _ _ _ ([("bit", 1)]) _ _ _ _ _ (by rfl) sc_flipped.nd (@pi_X _ _ _ _ (@pv _ 0 _ _ (by rfl) (by first  | exact Or.inl rfl  | exact Or.inr (Or.inl rfl)  | exact Or.inr (Or.inr rfl)) (by decide) (by decide))) (blkOk_by (own := [("bit", 1)]) (N := ["row", "bit"]) (sc := defScope s_flipped) (by decide +kernel)) (fun _ _ _ _ _ => (@pg_name _ _ (1) _ sc_flipped.nd rfl (by first | exact Or.inl rfl | exact Or.inr rfl) (by first  | exact .inl rfl  | exact .inr rfl  | assumption))) (fun _ _ _ _ _ => pts_nil) (fun _ _ _ _ _ => (@pe_other _ _ _ _ _ (w) (K) (mg) rfl rfl rfl OB (by rfl) (@pv _ 1 _ _ (by rfl) (by first  | exact Or.inl rfl  | exact Or.inr (Or.inl rfl)  | exact Or.inr (Or.inr rfl)) (by decide) (by decide)) (fun _ _ => rfl))) (by intro _; rfl)) (by rfl) (by rfl) (by rfl)))), ?_⟩
      have hsz : (rowS bs).cps.size = bs.length := row_size h01
      walk_at "rd"
      refine ⟨⟨_, rfl⟩, ?_⟩
      refine lcB_str (fun D i H' => H' D = some (.lst (((flipL (bs.take i)).map fun b => (Str.ofString (toString b))).map V.str)) ∧ Kp [] H H' ∧ Pl H') (fun D hD => ⟨upd_same, (Kp.refl _ _).new hD, hpl.upd rfl⟩) ?_ ?_
      · rintro D i c H1 hD hc ⟨gD, k1, p1⟩
        obtain ⟨b, hbi, hb1, eb⟩ := row_sign h01 hc
        have hil : i < bs.length := (List.getElem?_eq_some_iff.mp hbi).1
        rw [eb, row1_str hb1]
        simp only [turnC, wipe, tYes, L2.start, tSeq, tAsg, tRet, tIfS, tNext, tDrop, tPar, tVar, tC, tOp, tUn, tCall, tCB, tCons, tNil, tTup, tLst, tTest, tNot, tTru, tAnd, tOr, tIf, tAndV, tOrV, tNotX, tB, tSl, tPart, tNoPart, tBX, tBX0, tChain, gName, gCons, gNil, gSub, rI_ii, rI0_ii, rU_i, ex_bl, ex_int, ex_some, ex_two, ex_cons, ex_str, ex_v, nil_and, e_add_ii, e_add_ss, e_add_rr, e_cat, e_mul_ii, e_mul_ri, e_rep, e_ix_s, e_ix_r, e_ixO_l, e_ixO_t, at_0, at_1, e_setX, e_setO_l, e_gTup, e_gTupO, e_len_s, e_len_r, e_lenO_l, e_lenO_t, e_lenO_d, e_abs, e_max, e_min, e_int_i, e_int_b, e_int_s, e_listO_l, e_listO_t, e_divmod, e_all, e_isi, e_eq_ii, e_eq_ss, e_eq_bb, e_ne_ii, e_ne_ss, e_ne_bb, e_tru_n, e_tru_b, e_tru_i, e_tru_s, e_tru_r, e_truO_l, e_truO_t, e_sl_s, e_sl_r, e_slO, e_app, e_appO, e_rev, e_revO, e_tyX_l, e_tyXO_l, e_tyX_s, e_iO_l, e_iO_t, e_upd_same, e_upd_ne, ne_eq, not_false_eq_true, e_isN_n, e_isN_i, e_isN_b, e_isN_s, e_isN_r, e_non, e_tyN_i, e_tyN_b, e_tyN_s, e_tyN_n, e_tyN_r, e_tyO_l, e_tyO_t, e_tyO_d, e_box_turn, e_box_cells, e_box_put, List.map_cons, List.map_nil, List.length_cons, List.length_nil, List.replicate, List.append_nil, List.nil_append, List.cons_append, List.getElem?_cons_zero, List.getElem?_cons_succ, List.set_cons_zero, List.set_cons_succ, Nat.reduceAdd, Nat.reduceSub, ite_t, ite_f, decide_eq_true_eq, reduceIte, true_and, and_true, Bool.not_true, Bool.not_false, m_bool, m_int, m_str, m_list, m_tuple, m_dict, isTab, String.reduceBEq, Bool.and_false, Bool.and_true, Bool.or_false, Bool.false_or, Bool.or_true, Bool.true_or, Bool.false_and, Bool.true_and, decide_true, decide_false, Bool.false_eq_true, reduceCtorEq, e_isi_lt, tAug, e_for, e_forR1, e_forR2, e_forR3, e_sortS, e_addT_ii, e_addT_ss, e_addT_rr, e_catT_l, e_catT_t, e_addW_ii, e_addW_ss, e_addW_rr, e_catW_l, e_catW_t, e_forZ, e_lc, e_lcR1, e_lcR2, e_lcZ, tRv, e_rv, tM1, e_join, e_spl, e_cnt, e_cntO, e_idx, tRaise, tTry, e_forEs, e_mulY_ii, e_mulY_ri, e_mulY_si, tTryS, tTryN, xAsg, xExp, xIf, e_forEl, e_stw, e_maxY_ii, e_maxY_r, e_minY_ii, e_minY_r, e_anyY, e_sumY, tLR1, tLR2, tPar3, ex_three, e_lcEs, e_strY_i, e_listY_r, e_listY_s, e_pop, e_popO, e_popAt, e_ext, e_clr, e_clrO, e_isB, e_isNB, e_lenS, e_lenSO, e_sc, at_2, at_3, e_cntS, tAsg2, e_other, e_lcEl, e_ins, e_insO, tAugS, e_getL, tChain3, tChain4, e_gLst, e_gLstO, tRvY, e_rvY_s, e_rvY_r, e_stp, tOrW, e_forZ3, e_sameW, tDDef, tDNewT, e_forEz, e_inS, e_ninS, tCBK]
        refine ⟨b, hb1, rfl, _, gD, ?_, ?_, k1.upd (.inr hD), p1.upd rfl⟩
        · rw [List.length_map, List.length_map, flip_len, List.length_take]; exact Nat.lt_of_lt_of_le (show min i bs.length < 20001 by omega) (by decide)
        · unfold flipL; rw [take_snoc hbi, List.map_append, List.map_append, List.map_append]; rfl
      · rintro D H1 hD ⟨gD, k1, p1⟩
        rw [hsz, List.take_length] at gD
        walk_at "rd"
        refine ⟨_, gD, ?_, told_pure p1 k1 h⟩
        rw [row_len _ (flip01 h01), List.length_map, flip_len]
        show bs.length + bs.length * 0 ≤ 16777216
        omega
    · exact h.elim
theorem ok_press (F : Fn K mg "press" s_press p_press) (T : Bl mg) (c_flipped : Cal P w K mg base "flipped" 1 p_flipped spFlipW) : Cal P w K mg base "press" 2 p_press spPress := by
  refine F.cal (k := 1) sc_press (fun vs H Q E h => ?_) (fun f cdv A outer s H vs Q E hr h => ?_)
  · unfold spPress at h; split at h <;> first | rfl | exact h.elim
  · unfold spPress at h
    split at h
    · rename_i z
      obtain ⟨bs, rfl, h01, hbl, hpl, h0, h1⟩ := h
      have hu := hu_of hr
      have hu64 := hr.units
      refine ⟨_, (@pss_consC _ _ _ _ _ (@ps_set _ _ (1) _ _ _ _ sc_press.nd rfl (by first | exact Or.inl rfl | exact Or.inr rfl) (@pe_ifExp _ _ _ _ _ _ _ _ (@pt_cmpR _ _ _ _ _ _ _ _ op_inS pe_str (@pv _ 0 _ _ (by rfl) (by first  | exact Or.inl rfl  | exact Or.inr (Or.inl rfl)  | exact Or.inr (Or.inr rfl)) (by decide) (by decide)) (by rfl)) pe_int pe_int) (by rfl) (by first  | exact .inl rfl  | exact .inr rfl  | assumption)) (@pss_consC _ _ _ _ _ (@ps_set _ _ (2) _ _ _ _ sc_press.nd rfl (by first | exact Or.inl rfl | exact Or.inr rfl) (@pe_ifExp _ _ _ _ _ _ _ _ (@pt_truX _ _ _ (@pv _ 1 _ _ (by rfl) (by first  | exact Or.inl rfl  | exact Or.inr (Or.inl rfl)  | exact Or.inr (Or.inr rfl)) (by decide) (by decide)) (by intro _; rfl)) (@pe_cal _ _ _ _ _ _ _ _ _ _ c_flipped (hr.mono (by first | decide | omega)) (by rfl) (@pa_cons _ _ _ _ _ (@pv _ 0 _ _ (by rfl) (by first  | exact Or.inl rfl  | exact Or.inr (Or.inl rfl)  | exact Or.inr (Or.inr rfl)) (by decide) (by decide)) pa_nil (by rfl)) (by decide) (by rfl) (by rfl)) (@pv _ 0 _ _ (by rfl) (by first  | exact Or.inl rfl  | exact Or.inr (Or.inl rfl)  | exact Or.inr (Or.inr rfl)) (by decide) (by decide))) (by rfl) (by first  | exact .inl rfl  | exact .inr rfl  | assumption)) (@pss_cons _ _ _ _ _ (@ps_if _ _ _ _ _ _ _ _ (PW.pt (@pw_or _ _ _ _ _ _ _ (@pt_cmpR _ _ _ _ _ _ _ _ op_notInS pe_str (@pv _ 2 _ _ (by rfl) (by first  | exact Or.inl rfl  | exact Or.inr (Or.inl rfl)  | exact Or.inr (Or.inr rfl)) (by decide) (by decide)) (by rfl)) (@pw_or _ _ _ _ _ _ _ (@pt_cmpR _ _ _ _ _ _ _ _ op_notInS pe_str (@pv _ 2 _ _ (by rfl) (by first  | exact Or.inl rfl  | exact Or.inr (Or.inl rfl)  | exact Or.inr (Or.inr rfl)) (by decide) (by decide)) (by rfl)) (@pw_or1 _ _ _ _ (@pt_cmpR _ _ _ _ _ _ _ _ op_inS pe_str (@pv _ 2 _ _ (by rfl) (by first  | exact Or.inl rfl  | exact Or.inr (Or.inl rfl)  | exact Or.inr (Or.inr rfl)) (by decide) (by decide)) (by rfl)))))) (@pss_one _ _ _ (@ps_ret _ _ _ _ pe_non)) pss_nil) (@pss_cons _ _ _ _ _ (@ps_setLc _ (3) _ _ _ _ _ _ _ ([("run", 7)]) _ _ _ _ _ _ (by rfl) sc_press.nd rfl rfl (sw_true rfl rfl rfl (by decide +kernel)) (@pi_X _ _ _ _ (@pe_splitX _ _ _ _ _ _ _ (@pv _ 2 _ _ (by rfl) (by first  | exact Or.inl rfl  | exact Or.inr (Or.inl rfl)  | exact Or.inr (Or.inr rfl)) (by decide) (by decide)) pe_str (by rfl) (by rfl) (by rfl))) (blkOk_by (own := [("run", 7)]) (N := ["row", "flip", "whole", "noughts", "between", "least", "inner", "run", "many"]) (sc := defScope s_press) (by decide +kernel)) (fun _ _ _ _ _ => (@pg_name _ _ (7) _ sc_press.nd rfl (by first | exact Or.inl rfl | exact Or.inr rfl) (by first  | exact .inl rfl  | exact .inr rfl  | assumption))) (fun _ _ _ _ _ => pts_nil) (fun _ _ _ _ _ => (@pe_callB _ _ _ _ _ _ _ _ _ call_lenX (by rfl) T.b_len bt_len (@pa_cons _ _ _ _ _ (@pv _ 7 _ _ (by rfl) (by first  | exact Or.inl rfl  | exact Or.inr (Or.inl rfl)  | exact Or.inr (Or.inr rfl)) (by decide) (by decide)) pa_nil (by rfl)) (by decide) (by decide) (by rfl) (by rfl))) (by intro _; rfl)) (@pss_cons _ _ _ _ _ (@ps_set _ _ (4) _ _ _ _ sc_press.nd rfl (by first | exact Or.inl rfl | exact Or.inr rfl) (@pe_slice _ _ _ _ _ _ _ _ _ _ sl_X (@pv _ 3 _ _ (by rfl) (by first  | exact Or.inl rfl  | exact Or.inr (Or.inl rfl)  | exact Or.inr (Or.inr rfl)) (by decide) (by decide)) (@po_some _ _ _ pe_int) (@po_some _ _ _ (@pe_un _ _ _ _ _ _ un_neg pe_int))) (by rfl) (by first  | exact .inl rfl  | exact .inr rfl  | assumption)) (@pss_cons _ _ _ _ _ (@ps_set _ _ (5) _ _ _ _ sc_press.nd rfl (by first | exact Or.inl rfl | exact Or.inr rfl) (@pe_callBK _ _ _ _ _ _ _ _ _ _ _ _ (call_minD rfl) (by rfl) T.b_min bt_min (@pa_cons _ _ _ _ _ (@pv _ 4 _ _ (by rfl) (by first  | exact Or.inl rfl  | exact Or.inr (Or.inl rfl)  | exact Or.inr (Or.inr rfl)) (by decide) (by decide)) pa_nil (by rfl)) (pk_cons pe_int pk_nil) (by rfl) (by decide) (by decide) (by rfl) (by rfl) (by rfl) (by rfl)) (by rfl) (by first  | exact .inl rfl  | exact .inr rfl  | assumption)) (@pss_cons _ _ _ _ _ (@ps_if _ _ _ _ _ _ _ _ (@pt_cmpR _ _ _ _ _ _ _ _ op_gt (@pe_callBK _ _ _ _ _ _ _ _ _ _ _ _ (call_maxD rfl) (by rfl) T.b_max bt_max (@pa_cons _ _ _ _ _ (@pv _ 4 _ _ (by rfl) (by first  | exact Or.inl rfl  | exact Or.inr (Or.inl rfl)  | exact Or.inr (Or.inr rfl)) (by decide) (by decide)) pa_nil (by rfl)) (pk_cons pe_int pk_nil) (by rfl) (by decide) (by decide) (by rfl) (by rfl) (by rfl) (by rfl)) (@pe_op _ _ _ _ _ _ _ _ op_addX (@pv _ 5 _ _ (by rfl) (by first  | exact Or.inl rfl  | exact Or.inr (Or.inl rfl)  | exact Or.inr (Or.inr rfl)) (by decide) (by decide)) pe_int) (nomark _)) (@pss_one _ _ _ (@ps_ret _ _ _ _ pe_non)) pss_nil) (@pss_consC _ _ _ _ _ (@ps_set _ _ (6) _ _ _ _ sc_press.nd rfl (by first | exact Or.inl rfl | exact Or.inr rfl) (@pe_joinX _ _ _ _ _ _ _ pe_str (@pe_lc _ _ _ _ _ _ ([("many", 8)]) _ _ _ _ _ (by rfl) sc_press.nd (@pi_X _ _ _ _ (@pv _ 4 _ _ (by rfl) (by first  | exact Or.inl rfl  | exact Or.inr (Or.inl rfl)  | exact Or.inr (Or.inr rfl)) (by decide) (by decide))) (blkOk_by (own := [("many", 8)]) (N := ["row", "flip", "whole", "noughts", "between", "least", "inner", "run", "many"]) (sc := defScope s_press) (by decide +kernel)) (fun _ _ _ _ _ => (@pg_name _ _ (8) _ sc_press.nd rfl (by first | exact Or.inl rfl | exact Or.inr rfl) (by first  | exact .inl rfl  | exact .inr rfl  | assumption))) (fun _ _ _ _ _ => pts_nil) (fun _ _ _ _ _ => (@pe_ifExp _ _ _ _ _ _ _ _ (@pt_cmpR _ _ _ _ _ _ _ _ (op_eqK (K := K) rfl hu64) (@pv _ 8 _ _ (by rfl) (by first  | exact Or.inl rfl  | exact Or.inr (Or.inl rfl)  | exact Or.inr (Or.inr rfl)) (by decide) (by decide)) (@pv _ 5 _ _ (by rfl) (by first  | exact Or.inl rfl  | exact Or.inr (Or.inl rfl)  | exact Or.inr (Or.inr rfl)) (by decide) (by decide)) (nomark _)) pe_str pe_str)) (by intro _; rfl)) (by rfl) (by rfl) (by rfl)) (by rfl) (by first  | exact .inl rfl  | exact .inr rfl  | assumption)) (@pss_one _ _ _ (@ps_ret _ _ _ _ (@pe_tup _ _ _ _ _ (@pa_cons _ _ _ _ _ (@pe_tup _ _ _ _ _ (@pa_cons _ _ _ _ _ (@pv _ 1 _ _ (by rfl) (by first  | exact Or.inl rfl  | exact Or.inr (Or.inl rfl)  | exact Or.inr (Or.inr rfl)) (by decide) (by decide)) (@pa_cons _ _ _ _ _ (@pv _ 5 _ _ (by rfl) (by first  | exact Or.inl rfl  | exact Or.inr (Or.inl rfl)  | exact Or.inr (Or.inr rfl)) (by decide) (by decide)) (@pa_cons _ _ _ _ _ (@pe_ixX _ _ _ _ _ _ hu (@pv _ 3 _ _ (by rfl) (by first  | exact Or.inl rfl  | exact Or.inr (Or.inl rfl)  | exact Or.inr (Or.inr rfl)) (by decide) (by decide)) pe_int (fun _ _ => rfl)) (@pa_cons _ _ _ _ _ (@pe_ixX _ _ _ _ _ _ hu (@pv _ 3 _ _ (by rfl) (by first  | exact Or.inl rfl  | exact Or.inr (Or.inl rfl)  | exact Or.inr (Or.inr rfl)) (by decide) (by decide)) (@pe_un _ _ _ _ _ _ un_neg pe_int) (fun _ _ => rfl)) pa_nil (by rfl)) (by rfl)) (by rfl)) (by rfl))) (@pa_cons _ _ _ _ _ (@pv _ 6 _ _ (by rfl) (by first  | exact Or.inl rfl  | exact Or.inr (Or.inl rfl)  | exact Or.inr (Or.inr rfl)) (by decide) (by decide)) pa_nil (by rfl)) (by rfl))))))))))))), ?_⟩
      clear c_flipped
      walk_at "rd"
      generalize hR : tCut (tAsg (tIf (tTru (tVar 1)) _ _) _) _ = R
      refine e_cut (fun σ' H' => ∃ s2 s3 s4 s5 s6 s7 s8, σ' = [some (.str (rowS bs)), some (.int (flipI bs)), s2, s3, s4, s5, s6, s7, s8] ∧ H' = H) ?_ ?_
      · walk_at "rd"
        rw [in_11 h01]
        unfold flipI
        by_cases hh : has11 bs = true
        · rw [if_pos hh, if_pos hh]; exact ⟨_, _, _, _, _, _, _, rfl⟩
        · rw [if_neg hh, if_neg hh]; exact ⟨_, _, _, _, _, _, _, rfl⟩
      rintro σ H1 ⟨s2, s3, s4, s5, s6, s7, s8, rfl, rfl⟩
      subst hR
      generalize hR : tSeq (tIfS _ _ _) _ = R
      refine e_cut (fun σ' H' => ∃ s3 s4 s5 s6 s7 s8, σ' = [some (.str (rowS bs)), some (.int (flipI bs)), some (.str (rowS (whole bs))), s3, s4, s5, s6, s7, s8] ∧ H' = H1) ?_ ?_
      · walk_at "rd"
        by_cases hh : has11 bs = true
        · have e1 : flipI bs = 1 := if_pos hh
          have e2 : whole bs = flipL bs := if_pos hh
          rw [e1, e2, if_pos (by decide)]
          exact flipW_ok h01 hbl hpl ⟨_, _, _, _, _, _, rfl, rfl⟩
        · have e1 : flipI bs = 0 := if_neg hh
          have e2 : whole bs = bs := if_neg hh
          rw [e1, e2, if_neg (by decide)]
          exact ⟨_, _, _, _, _, _, rfl⟩
      rintro σ H2 ⟨s3, s4, s5, s6, s7, s8, rfl, rfl⟩
      subst hR
      have w01 := whole01 h01
      have wl := whole_len bs
      obtain ⟨W, hW⟩ : ∃ W, W = whole bs := ⟨_, rfl⟩
      rw [← hW] at w01 wl ⊢
      walk_at "rd"
      rw [in_0 w01, in_1 w01, in_11 w01]
      by_cases c0 : (0 : Int) ∈ W
      · rw [decide_eq_true c0, if_neg (by decide)]
        by_cases c1 : (1 : Int) ∈ W
        · rw [decide_eq_true c1, if_neg (by decide)]
          by_cases c2 : has11 W = true
          · rw [if_pos c2]
            exact told_id (h0 (by unfold pressF; rw [← hW, if_pos (.inr (.inr c2))]))
          · rw [if_neg c2]
            have hnn : ¬ ((0 : Int) ∉ whole bs ∨ (1 : Int) ∉ whole bs ∨ has11 (whole bs) = true) := by
              rw [← hW]
              rintro (x | x | x)
              · exact x c0
              · exact x c1
              · exact c2 x
            refine ⟨⟨_, rfl⟩, by decide, ?_, fun p np => ?_⟩
            · rw [row_size w01, wl]; exact Nat.le_trans (show bs.length + 2 ≤ 20002 by omega) (by decide)
            rw [split_gp w01]
            generalize hE : upd H2 p _ = H3
            have g3 := at_of hE; have k3 := kp_of hE np; have p3 := pl_of hE hpl rfl; clear hE
            have hgl : (gp 0 W).length ≤ bs.length + 1 := by
              have a := gp_len W 0 w01
              have b := sum01 w01
              omega
            refine lcB_list g3 (fun D i H' => H' D = some (.lst (((gI W).take i).map V.int)) ∧ Kp [] H3 H' ∧ Pl H') (fun D hD => ⟨upd_same, (Kp.refl _ _).new hD, p3.upd rfl⟩) (fun D i H' _ hP => hP.2.1 p _ (by simp) g3) ?_ ?_
            · rintro D i x H' hD hx ⟨gD, kD, pD⟩
              rw [List.getElem?_map, List.getElem?_map] at hx
              cases hm : (gp 0 W)[i]? with
              | none => rw [hm] at hx; cases hx
              | some m =>
                rw [hm] at hx; cases hx
                simp only [turnC, wipe, tYes, L2.start, tSeq, tAsg, tRet, tIfS, tNext, tDrop, tPar, tVar, tC, tOp, tUn, tCall, tCB, tCons, tNil, tTup, tLst, tTest, tNot, tTru, tAnd, tOr, tIf, tAndV, tOrV, tNotX, tB, tSl, tPart, tNoPart, tBX, tBX0, tChain, gName, gCons, gNil, gSub, rI_ii, rI0_ii, rU_i, ex_bl, ex_int, ex_some, ex_two, ex_cons, ex_str, ex_v, nil_and, e_add_ii, e_add_ss, e_add_rr, e_cat, e_mul_ii, e_mul_ri, e_rep, e_ix_s, e_ix_r, e_ixO_l, e_ixO_t, at_0, at_1, e_setX, e_setO_l, e_gTup, e_gTupO, e_len_s, e_len_r, e_lenO_l, e_lenO_t, e_lenO_d, e_abs, e_max, e_min, e_int_i, e_int_b, e_int_s, e_listO_l, e_listO_t, e_divmod, e_all, e_isi, e_eq_ii, e_eq_ss, e_eq_bb, e_ne_ii, e_ne_ss, e_ne_bb, e_tru_n, e_tru_b, e_tru_i, e_tru_s, e_tru_r, e_truO_l, e_truO_t, e_sl_s, e_sl_r, e_slO, e_app, e_appO, e_rev, e_revO, e_tyX_l, e_tyXO_l, e_tyX_s, e_iO_l, e_iO_t, e_upd_same, e_upd_ne, ne_eq, not_false_eq_true, e_isN_n, e_isN_i, e_isN_b, e_isN_s, e_isN_r, e_non, e_tyN_i, e_tyN_b, e_tyN_s, e_tyN_n, e_tyN_r, e_tyO_l, e_tyO_t, e_tyO_d, e_box_turn, e_box_cells, e_box_put, List.map_cons, List.map_nil, List.length_cons, List.length_nil, List.replicate, List.append_nil, List.nil_append, List.cons_append, List.getElem?_cons_zero, List.getElem?_cons_succ, List.set_cons_zero, List.set_cons_succ, Nat.reduceAdd, Nat.reduceSub, ite_t, ite_f, decide_eq_true_eq, reduceIte, true_and, and_true, Bool.not_true, Bool.not_false, m_bool, m_int, m_str, m_list, m_tuple, m_dict, isTab, String.reduceBEq, Bool.and_false, Bool.and_true, Bool.or_false, Bool.false_or, Bool.or_true, Bool.true_or, Bool.false_and, Bool.true_and, decide_true, decide_false, Bool.false_eq_true, reduceCtorEq, e_isi_lt, tAug, e_for, e_forR1, e_forR2, e_forR3, e_sortS, e_addT_ii, e_addT_ss, e_addT_rr, e_catT_l, e_catT_t, e_addW_ii, e_addW_ss, e_addW_rr, e_catW_l, e_catW_t, e_forZ, e_lc, e_lcR1, e_lcR2, e_lcZ, tRv, e_rv, tM1, e_join, e_spl, e_cnt, e_cntO, e_idx, tRaise, tTry, e_forEs, e_mulY_ii, e_mulY_ri, e_mulY_si, tTryS, tTryN, xAsg, xExp, xIf, e_forEl, e_stw, e_maxY_ii, e_maxY_r, e_minY_ii, e_minY_r, e_anyY, e_sumY, tLR1, tLR2, tPar3, ex_three, e_lcEs, e_strY_i, e_listY_r, e_listY_s, e_pop, e_popO, e_popAt, e_ext, e_clr, e_clrO, e_isB, e_isNB, e_lenS, e_lenSO, e_sc, at_2, at_3, e_cntS, tAsg2, e_other, e_lcEl, e_ins, e_insO, tAugS, e_getL, tChain3, tChain4, e_gLst, e_gLstO, tRvY, e_rvY_s, e_rvY_r, e_stp, tOrW, e_forZ3, e_sameW, tDDef, tDNewT, e_forEz, e_inS, e_ninS, tCBK]
                have hil : i < (gp 0 W).length := (List.getElem?_eq_some_iff.mp hm).1
                have z01 : ∀ b ∈ List.replicate m (0 : Int), b = 0 ∨ b = 1 := fun b hb => .inl (List.eq_of_mem_replicate hb)
                have hml := gp_le W 0 m (List.mem_of_getElem? hm)
                refine ⟨by rw [row_size z01, List.length_replicate]; exact Nat.le_trans (show m ≤ 20000 by omega) (by decide), _, gD, ?_, ?_, kD.upd (.inr hD), pD.upd rfl⟩
                · rw [List.length_map, List.length_take]; exact Nat.lt_of_le_of_lt (show min i _ ≤ 20001 by omega) (by decide)
                · rw [row_size z01, List.length_replicate, take_snoc (gI_at hm), List.map_append]; rfl
            · rintro D H' hD ⟨gD, kD, pD⟩
              rw [show (((gp 0 W).map fun m => rowS (List.replicate m 0)).map V.str).length = (gI W).length by unfold gI; rw [List.length_map, List.length_map, List.length_map], List.take_length] at gD
              simp only [L2.start, tSeq, tAsg, tRet, tIfS, tNext, tDrop, tPar, tVar, tC, tOp, tUn, tCall, tCB, tCons, tNil, tTup, tLst, tTest, tNot, tTru, tAnd, tOr, tIf, tAndV, tOrV, tNotX, tB, tSl, tPart, tNoPart, tBX, tBX0, tChain, gName, gCons, gNil, gSub, rI_ii, rI0_ii, rU_i, ex_bl, ex_int, ex_some, ex_two, ex_cons, ex_str, ex_v, nil_and, e_add_ii, e_add_ss, e_add_rr, e_cat, e_mul_ii, e_mul_ri, e_rep, e_ix_s, e_ix_r, e_ixO_l, e_ixO_t, at_0, at_1, e_setX, e_setO_l, e_gTup, e_gTupO, e_len_s, e_len_r, e_lenO_l, e_lenO_t, e_lenO_d, e_abs, e_max, e_min, e_int_i, e_int_b, e_int_s, e_listO_l, e_listO_t, e_divmod, e_all, e_isi, e_eq_ii, e_eq_ss, e_eq_bb, e_ne_ii, e_ne_ss, e_ne_bb, e_tru_n, e_tru_b, e_tru_i, e_tru_s, e_tru_r, e_truO_l, e_truO_t, e_sl_s, e_sl_r, e_slO, e_app, e_appO, e_rev, e_revO, e_tyX_l, e_tyXO_l, e_tyX_s, e_iO_l, e_iO_t, e_upd_same, e_upd_ne, ne_eq, not_false_eq_true, e_isN_n, e_isN_i, e_isN_b, e_isN_s, e_isN_r, e_non, e_tyN_i, e_tyN_b, e_tyN_s, e_tyN_n, e_tyN_r, e_tyO_l, e_tyO_t, e_tyO_d, e_box_turn, e_box_cells, e_box_put, List.map_cons, List.map_nil, List.length_cons, List.length_nil, List.replicate, List.append_nil, List.nil_append, List.cons_append, List.getElem?_cons_zero, List.getElem?_cons_succ, List.set_cons_zero, List.set_cons_succ, Nat.reduceAdd, Nat.reduceSub, ite_t, ite_f, decide_eq_true_eq, reduceIte, true_and, and_true, Bool.not_true, Bool.not_false, m_bool, m_int, m_str, m_list, m_tuple, m_dict, isTab, String.reduceBEq, Bool.and_false, Bool.and_true, Bool.or_false, Bool.false_or, Bool.or_true, Bool.true_or, Bool.false_and, Bool.true_and, decide_true, decide_false, Bool.false_eq_true, reduceCtorEq, e_isi_lt, tAug, e_for, e_forR1, e_forR2, e_forR3, e_sortS, e_addT_ii, e_addT_ss, e_addT_rr, e_catT_l, e_catT_t, e_addW_ii, e_addW_ss, e_addW_rr, e_catW_l, e_catW_t, e_forZ, e_lc, e_lcR1, e_lcR2, e_lcZ, tRv, e_rv, tM1, e_join, e_spl, e_cnt, e_cntO, e_idx, tRaise, tTry, e_forEs, e_mulY_ii, e_mulY_ri, e_mulY_si, tTryS, tTryN, xAsg, xExp, xIf, e_forEl, e_stw, e_maxY_ii, e_maxY_r, e_minY_ii, e_minY_r, e_anyY, e_sumY, tLR1, tLR2, tPar3, ex_three, e_lcEs, e_strY_i, e_listY_r, e_listY_s, e_pop, e_popO, e_popAt, e_ext, e_clr, e_clrO, e_isB, e_isNB, e_lenS, e_lenSO, e_sc, at_2, at_3, e_cntS, tAsg2, e_other, e_lcEl, e_ins, e_insO, tAugS, e_getL, tChain3, tChain4, e_gLst, e_gLstO, tRvY, e_rvY_s, e_rvY_r, e_stp, tOrW, e_forZ3, e_sameW, tDDef, tDNewT, e_forEz, e_inS, e_ninS, tCBK, gD, cutV_inner, mid_ints]
              refine fun q nq => ?_
              generalize hE : upd H' q _ = H4
              have g4 := at_of hE; have k4 := kp_of hE nq; have p4 := pl_of hE pD rfl; have gD4 := k4.at' gD; clear hE
              generalize hM : midL (gI W) = m at g4
              refine min_lo g4 ?_
              refine max_hi g4 ?_
              simp only [L2.start, tSeq, tAsg, tRet, tIfS, tNext, tDrop, tPar, tVar, tC, tOp, tUn, tCall, tCB, tCons, tNil, tTup, tLst, tTest, tNot, tTru, tAnd, tOr, tIf, tAndV, tOrV, tNotX, tB, tSl, tPart, tNoPart, tBX, tBX0, tChain, gName, gCons, gNil, gSub, rI_ii, rI0_ii, rU_i, ex_bl, ex_int, ex_some, ex_two, ex_cons, ex_str, ex_v, nil_and, e_add_ii, e_add_ss, e_add_rr, e_cat, e_mul_ii, e_mul_ri, e_rep, e_ix_s, e_ix_r, e_ixO_l, e_ixO_t, at_0, at_1, e_setX, e_setO_l, e_gTup, e_gTupO, e_len_s, e_len_r, e_lenO_l, e_lenO_t, e_lenO_d, e_abs, e_max, e_min, e_int_i, e_int_b, e_int_s, e_listO_l, e_listO_t, e_divmod, e_all, e_isi, e_eq_ii, e_eq_ss, e_eq_bb, e_ne_ii, e_ne_ss, e_ne_bb, e_tru_n, e_tru_b, e_tru_i, e_tru_s, e_tru_r, e_truO_l, e_truO_t, e_sl_s, e_sl_r, e_slO, e_app, e_appO, e_rev, e_revO, e_tyX_l, e_tyXO_l, e_tyX_s, e_iO_l, e_iO_t, e_upd_same, e_upd_ne, ne_eq, not_false_eq_true, e_isN_n, e_isN_i, e_isN_b, e_isN_s, e_isN_r, e_non, e_tyN_i, e_tyN_b, e_tyN_s, e_tyN_n, e_tyN_r, e_tyO_l, e_tyO_t, e_tyO_d, e_box_turn, e_box_cells, e_box_put, List.map_cons, List.map_nil, List.length_cons, List.length_nil, List.replicate, List.append_nil, List.nil_append, List.cons_append, List.getElem?_cons_zero, List.getElem?_cons_succ, List.set_cons_zero, List.set_cons_succ, Nat.reduceAdd, Nat.reduceSub, ite_t, ite_f, decide_eq_true_eq, reduceIte, true_and, and_true, Bool.not_true, Bool.not_false, m_bool, m_int, m_str, m_list, m_tuple, m_dict, isTab, String.reduceBEq, Bool.and_false, Bool.and_true, Bool.or_false, Bool.false_or, Bool.or_true, Bool.true_or, Bool.false_and, Bool.true_and, decide_true, decide_false, Bool.false_eq_true, reduceCtorEq, e_isi_lt, tAug, e_for, e_forR1, e_forR2, e_forR3, e_sortS, e_addT_ii, e_addT_ss, e_addT_rr, e_catT_l, e_catT_t, e_addW_ii, e_addW_ss, e_addW_rr, e_catW_l, e_catW_t, e_forZ, e_lc, e_lcR1, e_lcR2, e_lcZ, tRv, e_rv, tM1, e_join, e_spl, e_cnt, e_cntO, e_idx, tRaise, tTry, e_forEs, e_mulY_ii, e_mulY_ri, e_mulY_si, tTryS, tTryN, xAsg, xExp, xIf, e_forEl, e_stw, e_maxY_ii, e_maxY_r, e_minY_ii, e_minY_r, e_anyY, e_sumY, tLR1, tLR2, tPar3, ex_three, e_lcEs, e_strY_i, e_listY_r, e_listY_s, e_pop, e_popO, e_popAt, e_ext, e_clr, e_clrO, e_isB, e_isNB, e_lenS, e_lenSO, e_sc, at_2, at_3, e_cntS, tAsg2, e_other, e_lcEl, e_ins, e_insO, tAugS, e_getL, tChain3, tChain4, e_gLst, e_gLstO, tRvY, e_rvY_s, e_rvY_r, e_stp, tOrW, e_forZ3, e_sameW, tDDef, tDNewT, e_forEz, e_inS, e_ninS, tCBK]
              by_cases c3 : hi0 m > lo0 m + 1
              · rw [if_pos (show lo0 m + 1 < hi0 m from c3)]
                exact told_pure p4 ((k3.trans kD).trans k4) (h0 (by unfold pressF; rw [if_neg hnn, ← hW, hM, if_pos c3]))
              · rw [if_neg (show ¬ lo0 m + 1 < hi0 m from c3)]
                have hsome : pressF bs = some ((flipI bs, lo0 m, (gI W).headD 0, (gI W).getLastD 0), innerL m) := by unfold pressF; rw [if_neg hnn, ← hW, hM, if_neg c3]
                have hml : m.length ≤ bs.length := by rw [← hM, mid_len]; unfold gI; rw [List.length_map]; omega
                refine e_cut (fun σ' H' => ∃ s7 s8, σ' = [some (.str (rowS bs)), some (.int (flipI bs)), some (.str (rowS W)), some (.ref D), some (.ref q), some (.int (lo0 m)), some (.str (rowS (innerL m))), s7, s8] ∧ H' D = some (.lst ((gI W).map V.int)) ∧ Kp [] H4 H' ∧ Pl H') ?_ ?_
                · walk_at "rd"
                  refine ⟨⟨_, rfl⟩, ?_⟩
                  refine lcB_list g4 (fun R i H' => H' R = some (.lst ((((innerL m).take i).map fun b => (Str.ofString (toString b))).map V.str)) ∧ Kp [] H4 H' ∧ Pl H') (fun R hR => ⟨upd_same, (Kp.refl _ _).new hR, p4.upd rfl⟩) (fun R i H' _ hP => hP.2.1 q _ (by simp) g4) ?_ ?_
                  · rintro R i x H' hR hx ⟨gR, kR, pR⟩
                    obtain ⟨y, rfl, hy⟩ := int_at hx
                    simp only [turnC, wipe, tYes, L2.start, tSeq, tAsg, tRet, tIfS, tNext, tDrop, tPar, tVar, tC, tOp, tUn, tCall, tCB, tCons, tNil, tTup, tLst, tTest, tNot, tTru, tAnd, tOr, tIf, tAndV, tOrV, tNotX, tB, tSl, tPart, tNoPart, tBX, tBX0, tChain, gName, gCons, gNil, gSub, rI_ii, rI0_ii, rU_i, ex_bl, ex_int, ex_some, ex_two, ex_cons, ex_str, ex_v, nil_and, e_add_ii, e_add_ss, e_add_rr, e_cat, e_mul_ii, e_mul_ri, e_rep, e_ix_s, e_ix_r, e_ixO_l, e_ixO_t, at_0, at_1, e_setX, e_setO_l, e_gTup, e_gTupO, e_len_s, e_len_r, e_lenO_l, e_lenO_t, e_lenO_d, e_abs, e_max, e_min, e_int_i, e_int_b, e_int_s, e_listO_l, e_listO_t, e_divmod, e_all, e_isi, e_eq_ii, e_eq_ss, e_eq_bb, e_ne_ii, e_ne_ss, e_ne_bb, e_tru_n, e_tru_b, e_tru_i, e_tru_s, e_tru_r, e_truO_l, e_truO_t, e_sl_s, e_sl_r, e_slO, e_app, e_appO, e_rev, e_revO, e_tyX_l, e_tyXO_l, e_tyX_s, e_iO_l, e_iO_t, e_upd_same, e_upd_ne, ne_eq, not_false_eq_true, e_isN_n, e_isN_i, e_isN_b, e_isN_s, e_isN_r, e_non, e_tyN_i, e_tyN_b, e_tyN_s, e_tyN_n, e_tyN_r, e_tyO_l, e_tyO_t, e_tyO_d, e_box_turn, e_box_cells, e_box_put, List.map_cons, List.map_nil, List.length_cons, List.length_nil, List.replicate, List.append_nil, List.nil_append, List.cons_append, List.getElem?_cons_zero, List.getElem?_cons_succ, List.set_cons_zero, List.set_cons_succ, Nat.reduceAdd, Nat.reduceSub, ite_t, ite_f, decide_eq_true_eq, reduceIte, true_and, and_true, Bool.not_true, Bool.not_false, m_bool, m_int, m_str, m_list, m_tuple, m_dict, isTab, String.reduceBEq, Bool.and_false, Bool.and_true, Bool.or_false, Bool.false_or, Bool.or_true, Bool.true_or, Bool.false_and, Bool.true_and, decide_true, decide_false, Bool.false_eq_true, reduceCtorEq, e_isi_lt, tAug, e_for, e_forR1, e_forR2, e_forR3, e_sortS, e_addT_ii, e_addT_ss, e_addT_rr, e_catT_l, e_catT_t, e_addW_ii, e_addW_ss, e_addW_rr, e_catW_l, e_catW_t, e_forZ, e_lc, e_lcR1, e_lcR2, e_lcZ, tRv, e_rv, tM1, e_join, e_spl, e_cnt, e_cntO, e_idx, tRaise, tTry, e_forEs, e_mulY_ii, e_mulY_ri, e_mulY_si, tTryS, tTryN, xAsg, xExp, xIf, e_forEl, e_stw, e_maxY_ii, e_maxY_r, e_minY_ii, e_minY_r, e_anyY, e_sumY, tLR1, tLR2, tPar3, ex_three, e_lcEs, e_strY_i, e_listY_r, e_listY_s, e_pop, e_popO, e_popAt, e_ext, e_clr, e_clrO, e_isB, e_isNB, e_lenS, e_lenSO, e_sc, at_2, at_3, e_cntS, tAsg2, e_other, e_lcEl, e_ins, e_insO, tAugS, e_getL, tChain3, tChain4, e_gLst, e_gLstO, tRvY, e_rvY_s, e_rvY_r, e_stp, tOrW, e_forZ3, e_sameW, tDDef, tDNewT, e_forEz, e_inS, e_ninS, tCBK]
                    have hiy : (innerL m)[i]? = some (if y = lo0 m then 0 else 1) := by unfold innerL; rw [List.getElem?_map, hy]; rfl
                    have hil : i < m.length := (List.getElem?_eq_some_iff.mp hy).1
                    have hlen : ((((innerL m).take i).map fun b => (Str.ofString (toString b))).map V.str).length < sizeLine := by rw [List.length_map, List.length_map, List.length_take]; exact Nat.lt_of_le_of_lt (show min i _ ≤ 20000 by omega) (by decide)
                    by_cases hy0 : y = lo0 m
                    · rw [if_pos hy0]
                      rw [if_pos hy0] at hiy
                      exact ⟨_, gR, hlen, by rw [take_snoc hiy, List.map_append, List.map_append, s0, row1_str (.inl rfl)]; rfl, kR.upd (.inr hR), pR.upd rfl⟩
                    · rw [if_neg hy0]
                      rw [if_neg hy0] at hiy
                      exact ⟨_, gR, hlen, by rw [take_snoc hiy, List.map_append, List.map_append, s1, row1_str (.inr rfl)]; rfl, kR.upd (.inr hR), pR.upd rfl⟩
                  · rintro R H' hR ⟨gR, kR, pR⟩
                    rw [List.length_map, show m.length = (innerL m).length by unfold innerL; rw [List.length_map], List.take_length] at gR
                    refine ⟨_, gR, ?_, ?_⟩
                    · rw [row_len _ (inner01 m), List.length_map]
                      unfold innerL
                      rw [List.length_map]
                      show m.length + m.length * 0 ≤ 16777216
                      omega
                    · exact ⟨_, _, rfl, kR D _ (by simp) gD4, kR, pR⟩
                · rintro σ H5 ⟨s7, s8, rfl, g5, k5, p5⟩
                  walk_at "rd"
                  simp only [L2.start, tSeq, tAsg, tRet, tIfS, tNext, tDrop, tPar, tVar, tC, tOp, tUn, tCall, tCB, tCons, tNil, tTup, tLst, tTest, tNot, tTru, tAnd, tOr, tIf, tAndV, tOrV, tNotX, tB, tSl, tPart, tNoPart, tBX, tBX0, tChain, gName, gCons, gNil, gSub, rI_ii, rI0_ii, rU_i, ex_bl, ex_int, ex_some, ex_two, ex_cons, ex_str, ex_v, nil_and, e_add_ii, e_add_ss, e_add_rr, e_cat, e_mul_ii, e_mul_ri, e_rep, e_ix_s, e_ix_r, e_ixO_l, e_ixO_t, at_0, at_1, e_setX, e_setO_l, e_gTup, e_gTupO, e_len_s, e_len_r, e_lenO_l, e_lenO_t, e_lenO_d, e_abs, e_max, e_min, e_int_i, e_int_b, e_int_s, e_listO_l, e_listO_t, e_divmod, e_all, e_isi, e_eq_ii, e_eq_ss, e_eq_bb, e_ne_ii, e_ne_ss, e_ne_bb, e_tru_n, e_tru_b, e_tru_i, e_tru_s, e_tru_r, e_truO_l, e_truO_t, e_sl_s, e_sl_r, e_slO, e_app, e_appO, e_rev, e_revO, e_tyX_l, e_tyXO_l, e_tyX_s, e_iO_l, e_iO_t, e_upd_same, e_upd_ne, ne_eq, not_false_eq_true, e_isN_n, e_isN_i, e_isN_b, e_isN_s, e_isN_r, e_non, e_tyN_i, e_tyN_b, e_tyN_s, e_tyN_n, e_tyN_r, e_tyO_l, e_tyO_t, e_tyO_d, e_box_turn, e_box_cells, e_box_put, List.map_cons, List.map_nil, List.length_cons, List.length_nil, List.replicate, List.append_nil, List.nil_append, List.cons_append, List.getElem?_cons_zero, List.getElem?_cons_succ, List.set_cons_zero, List.set_cons_succ, Nat.reduceAdd, Nat.reduceSub, ite_t, ite_f, decide_eq_true_eq, reduceIte, true_and, and_true, Bool.not_true, Bool.not_false, m_bool, m_int, m_str, m_list, m_tuple, m_dict, isTab, String.reduceBEq, Bool.and_false, Bool.and_true, Bool.or_false, Bool.false_or, Bool.or_true, Bool.true_or, Bool.false_and, Bool.true_and, decide_true, decide_false, Bool.false_eq_true, reduceCtorEq, e_isi_lt, tAug, e_for, e_forR1, e_forR2, e_forR3, e_sortS, e_addT_ii, e_addT_ss, e_addT_rr, e_catT_l, e_catT_t, e_addW_ii, e_addW_ss, e_addW_rr, e_catW_l, e_catW_t, e_forZ, e_lc, e_lcR1, e_lcR2, e_lcZ, tRv, e_rv, tM1, e_join, e_spl, e_cnt, e_cntO, e_idx, tRaise, tTry, e_forEs, e_mulY_ii, e_mulY_ri, e_mulY_si, tTryS, tTryN, xAsg, xExp, xIf, e_forEl, e_stw, e_maxY_ii, e_maxY_r, e_minY_ii, e_minY_r, e_anyY, e_sumY, tLR1, tLR2, tPar3, ex_three, e_lcEs, e_strY_i, e_listY_r, e_listY_s, e_pop, e_popO, e_popAt, e_ext, e_clr, e_clrO, e_isB, e_isNB, e_lenS, e_lenSO, e_sc, at_2, at_3, e_cntS, tAsg2, e_other, e_lcEl, e_ins, e_insO, tAugS, e_getL, tChain3, tChain4, e_gLst, e_gLstO, tRvY, e_rvY_s, e_rvY_r, e_stp, tOrW, e_forZ3, e_sameW, tDDef, tDNewT, e_forEz, e_inS, e_ninS, tCBK, g5]
                  refine ⟨_, at_in (by omega) (by rw [List.getElem?_map, show ((0 : Int)).toNat = 0 from rfl, headD_at (gI_ne W)]; rfl), _, at_last (by rw [List.getLast?_map, lastD_at (gI_ne W)]; rfl), by decide, fun t nt => ⟨by decide, fun r nr => ?_⟩⟩
                  have ntr : t ≠ r := fun e => by subst e; rw [upd_same] at nr; cases nr
                  have nr5 := (upd_none nr).1
                  have k15 := ((k3.trans kD).trans k4).trans k5
                  refine told_id (h1 _ _ hsome r t _ (k15.none nr5 (by simp)) (k15.none nt (by simp)) upd_same (by rw [upd_ne ntr, upd_same]; rfl) ((k15.new nt).upd (.inr (k15.none nr5 (by simp)))) ((p5.upd rfl).upd rfl))
        · rw [decide_eq_false c1, if_pos (by decide)]
          exact told_id (h0 (by unfold pressF; rw [← hW, if_pos (.inr (.inl c1))]))
      · rw [decide_eq_false c0, if_pos (by decide)]
        exact told_id (h0 (by unfold pressF; rw [← hW, if_pos (.inl c0)]))
    · exact h.elim
theorem ok_pressed (F : Fn K mg "pressed" s_pressed p_pressed) (T : Bl mg) (c_press : Cal P w K mg base "press" 2 p_press spPress) : Cal P w K mg base "pressed" 3 p_pressed spPressed := by
  refine F.cal (k := 2) sc_pressed (fun vs H Q E h => ?_) (fun f cdv A outer s H vs Q E hr h => ?_)
  · unfold spPressed at h; split at h <;> first | rfl | exact h.elim
  · unfold spPressed at h
    split at h
    · rename_i z
      obtain ⟨bs, rfl, h01, hbl, hpl, h⟩ := h
      have hu := hu_of hr
      have hu64 := hr.units
      refine ⟨_, (@pss_cons _ _ _ _ _ (@ps_set _ _ (1) _ _ _ _ sc_pressed.nd rfl (by first | exact Or.inl rfl | exact Or.inr rfl) (@pe_lst _ _ _ _ pa_nil) (by rfl) (by first  | exact .inl rfl  | exact .inr rfl  | assumption)) (@pss_cons _ _ _ _ _ (@ps_set _ _ (2) _ _ _ _ sc_pressed.nd rfl (by first | exact Or.inl rfl | exact Or.inr rfl) (@pe_cal _ _ _ _ _ _ _ _ _ _ c_press (hr.mono (by first | decide | omega)) (by rfl) (@pa_cons _ _ _ _ _ (@pv _ 0 _ _ (by rfl) (by first  | exact Or.inl rfl  | exact Or.inr (Or.inl rfl)  | exact Or.inr (Or.inr rfl)) (by decide) (by decide)) pa_nil (by rfl)) (by decide) (by rfl) (by rfl)) (by rfl) (by first  | exact .inl rfl  | exact .inr rfl  | assumption)) (@pss_cons _ _ _ _ _ (@ps_while _ _ _ _ _ _ PassesOwn.never (@pt_cmpR _ _ _ _ _ _ _ _ op_notN (@pv _ 2 _ _ (by rfl) (by first  | exact Or.inl rfl  | exact Or.inr (Or.inl rfl)  | exact Or.inr (Or.inr rfl)) (by decide) (by decide)) pe_non (nomark _)) (@pss_cons _ _ _ _ _ (@ps_asg _ _ _ _ _ _ (@pv _ 2 _ _ (by rfl) (by first  | exact Or.inl rfl  | exact Or.inr (Or.inl rfl)  | exact Or.inr (Or.inr rfl)) (by decide) (by decide)) (@pg_tupX _ _ _ _ (2) _ rfl (@pgs_cons _ _ _ _ _ (@pg_name _ _ (3) _ sc_pressed.nd rfl (by first | exact Or.inl rfl | exact Or.inr rfl) (by first  | exact .inl rfl  | exact .inr rfl  | assumption)) (@pgs_cons _ _ _ _ _ (@pg_name _ _ (0) _ sc_pressed.nd rfl (by first | exact Or.inl rfl | exact Or.inr rfl) (by first  | exact .inl rfl  | exact .inr rfl  | assumption)) pgs_nil (by rfl)) (by rfl)) (by rfl) (by rfl)) (by rfl) (by rfl) (by rfl)) (@pss_cons _ _ _ _ _ (@ps_expr _ _ _ _ (@pe_bmX _ _ _ _ _ _ _ _ _ _ _ _ PySem.F.plainAttrs_list PySem.F.slot_list_append PySem.F.type_list_append mt_appX (@pv _ 1 _ _ (by rfl) (by first  | exact Or.inl rfl  | exact Or.inr (Or.inl rfl)  | exact Or.inr (Or.inr rfl)) (by decide) (by decide)) (@pa_cons _ _ _ _ _ (@pv _ 3 _ _ (by rfl) (by first  | exact Or.inl rfl  | exact Or.inr (Or.inl rfl)  | exact Or.inr (Or.inr rfl)) (by decide) (by decide)) pa_nil (by rfl)) (by rfl) (by rfl) (by rfl) (by rfl) (by rfl)) (by rfl)) (@pss_one _ _ _ (@ps_set _ _ (2) _ _ _ _ sc_pressed.nd rfl (by first | exact Or.inl rfl | exact Or.inr rfl) (@pe_cal _ _ _ _ _ _ _ _ _ _ c_press (hr.mono (by first | decide | omega)) (by rfl) (@pa_cons _ _ _ _ _ (@pv _ 0 _ _ (by rfl) (by first  | exact Or.inl rfl  | exact Or.inr (Or.inl rfl)  | exact Or.inr (Or.inr rfl)) (by decide) (by decide)) pa_nil (by rfl)) (by decide) (by rfl) (by rfl)) (by rfl) (by first  | exact .inl rfl  | exact .inr rfl  | assumption)))))) (@pss_one _ _ _ (@ps_ret _ _ _ _ (@pe_tup _ _ _ _ _ (@pa_cons _ _ _ _ _ (@pv _ 1 _ _ (by rfl) (by first  | exact Or.inl rfl  | exact Or.inr (Or.inl rfl)  | exact Or.inr (Or.inr rfl)) (by decide) (by decide)) (@pa_cons _ _ _ _ _ (@pv _ 0 _ _ (by rfl) (by first  | exact Or.inl rfl  | exact Or.inr (Or.inl rfl)  | exact Or.inr (Or.inr rfl)) (by decide) (by decide)) pa_nil (by rfl)) (by rfl)))))))), ?_⟩
      clear c_press
      walk_at "rd"
      refine ⟨by decide, fun l nl => ?_⟩
      generalize hE : upd H l _ = H1
      have g1 : H1 l = some (.lst (([] : List Addr).map V.ref)) := at_of hE
      have k1 := kp_of hE nl; have p1 := pl_of hE hpl rfl; clear hE
      refine press_ok2 h01 hbl p1 fun fv H2 hfv k2 p2 => ?_
      refine ⟨fun d σ H' => ∃ ss cur rs fv st, d = cur.length ∧ PrC bs ss cur ∧ σ = [some (.str (rowS cur)), some (.ref l), some fv, st] ∧ H' l = some (.lst (rs.map V.ref)) ∧ StepsH H' rs ss ∧ Kp [] H H' ∧ Pl H' ∧ PrV H' cur fv, ⟨_, [], bs, [], fv, _, rfl, .nil _, rfl, k2 l _ (by simp) g1, .nil, k1.trans k2, p2, hfv⟩, ?_⟩
      clear k2 p2 hfv k1 p1 g1
      rintro d σ H3 ⟨ss, cur, rs, fv, st, rfl, hPc, rfl, g3, S3, k3, p3, hfv⟩
      obtain ⟨hcl, c01⟩ := hPc.len h01
      rcases hfv with ⟨rfl, hn⟩ | ⟨s, inner, p, t, rfl, hs, gp, gt⟩
      · walk_at "rd"
        refine ⟨by decide, fun q nq => told_id (h ss cur hPc hn q l rs _ (k3.none nq (by simp)) nl (fun e => by subst e; rw [g3] at nq; cases nq) upd_same (by rw [upd_ne (fun e => by subst e; rw [g3] at nq; cases nq)]; exact g3) (S3.kp (Kp.new (Kp.refl _ _) nq)) (k3.new nq) (p3.upd rfl))⟩
      · walk_at "rd"
        simp only [L2.start, tSeq, tAsg, tRet, tIfS, tNext, tDrop, tPar, tVar, tC, tOp, tUn, tCall, tCB, tCons, tNil, tTup, tLst, tTest, tNot, tTru, tAnd, tOr, tIf, tAndV, tOrV, tNotX, tB, tSl, tPart, tNoPart, tBX, tBX0, tChain, gName, gCons, gNil, gSub, rI_ii, rI0_ii, rU_i, ex_bl, ex_int, ex_some, ex_two, ex_cons, ex_str, ex_v, nil_and, e_add_ii, e_add_ss, e_add_rr, e_cat, e_mul_ii, e_mul_ri, e_rep, e_ix_s, e_ix_r, e_ixO_l, e_ixO_t, at_0, at_1, e_setX, e_setO_l, e_gTup, e_gTupO, e_len_s, e_len_r, e_lenO_l, e_lenO_t, e_lenO_d, e_abs, e_max, e_min, e_int_i, e_int_b, e_int_s, e_listO_l, e_listO_t, e_divmod, e_all, e_isi, e_eq_ii, e_eq_ss, e_eq_bb, e_ne_ii, e_ne_ss, e_ne_bb, e_tru_n, e_tru_b, e_tru_i, e_tru_s, e_tru_r, e_truO_l, e_truO_t, e_sl_s, e_sl_r, e_slO, e_app, e_appO, e_rev, e_revO, e_tyX_l, e_tyXO_l, e_tyX_s, e_iO_l, e_iO_t, e_upd_same, e_upd_ne, ne_eq, not_false_eq_true, e_isN_n, e_isN_i, e_isN_b, e_isN_s, e_isN_r, e_non, e_tyN_i, e_tyN_b, e_tyN_s, e_tyN_n, e_tyN_r, e_tyO_l, e_tyO_t, e_tyO_d, e_box_turn, e_box_cells, e_box_put, List.map_cons, List.map_nil, List.length_cons, List.length_nil, List.replicate, List.append_nil, List.nil_append, List.cons_append, List.getElem?_cons_zero, List.getElem?_cons_succ, List.set_cons_zero, List.set_cons_succ, Nat.reduceAdd, Nat.reduceSub, ite_t, ite_f, decide_eq_true_eq, reduceIte, true_and, and_true, Bool.not_true, Bool.not_false, m_bool, m_int, m_str, m_list, m_tuple, m_dict, isTab, String.reduceBEq, Bool.and_false, Bool.and_true, Bool.or_false, Bool.false_or, Bool.or_true, Bool.true_or, Bool.false_and, Bool.true_and, decide_true, decide_false, Bool.false_eq_true, reduceCtorEq, e_isi_lt, tAug, e_for, e_forR1, e_forR2, e_forR3, e_sortS, e_addT_ii, e_addT_ss, e_addT_rr, e_catT_l, e_catT_t, e_addW_ii, e_addW_ss, e_addW_rr, e_catW_l, e_catW_t, e_forZ, e_lc, e_lcR1, e_lcR2, e_lcZ, tRv, e_rv, tM1, e_join, e_spl, e_cnt, e_cntO, e_idx, tRaise, tTry, e_forEs, e_mulY_ii, e_mulY_ri, e_mulY_si, tTryS, tTryN, xAsg, xExp, xIf, e_forEl, e_stw, e_maxY_ii, e_maxY_r, e_minY_ii, e_minY_r, e_anyY, e_sumY, tLR1, tLR2, tPar3, ex_three, e_lcEs, e_strY_i, e_listY_r, e_listY_s, e_pop, e_popO, e_popAt, e_ext, e_clr, e_clrO, e_isB, e_isNB, e_lenS, e_lenSO, e_sc, at_2, at_3, e_cntS, tAsg2, e_other, e_lcEl, e_ins, e_insO, tAugS, e_getL, tChain3, tChain4, e_gLst, e_gLstO, tRvY, e_rvY_s, e_rvY_r, e_stp, tOrW, e_forZ3, e_sameW, tDDef, tDNewT, e_forEz, e_inS, e_ninS, tCBK, gp, g3]
        have hlt := (press_len c01 hs).1
        have i01 := (press_len c01 hs).2
        have g4 : upd H3 l (.lst (rs.map V.ref ++ [V.ref t])) l = some (.lst ((rs ++ [t]).map V.ref)) := by rw [upd_same, List.map_append]; rfl
        have hrs : rs.length = ss.length := S3.1
        refine ⟨fun σ' H' => ∃ cur2 rs2 fv2 st2, cur2.length < cur.length ∧ PrC bs (ss ++ [s]) cur2 ∧ σ' = [some (.str (rowS cur2)), some (.ref l), some fv2, st2] ∧ H' l = some (.lst (rs2.map V.ref)) ∧ StepsH H' rs2 (ss ++ [s]) ∧ Kp [] H H' ∧ Pl H' ∧ PrV H' cur2 fv2, ?_, ?_, ?_⟩
        · rintro σ' H' ⟨cur2, rs2, fv2, st2, a1, a2, a3, a4⟩
          exact ⟨_, a1, ss ++ [s], cur2, rs2, fv2, st2, rfl, a2, a3, a4⟩
        · rw [List.length_map, hrs]; exact Nat.lt_of_le_of_lt (show ss.length ≤ 20000 by omega) (by decide)
        · refine press_ok2 i01 (by omega) (p3.upd rfl) fun fv H5 hfv k5 p5 => ?_
          exact ⟨inner, rs ++ [t], fv, _, hlt, hPc.snoc hs, rfl, k5 l _ (by simp) g4, (((S3.snoc gt).updL g3)).kp k5, (k3.upd (.inr nl)).trans k5, p5, hfv⟩
    · exact h.elim
theorem ok_l_begin (F : Fn K mg "_law_begin" s_l_begin p_l_begin) (T : Bl mg) : Cal P w K mg base "_law_begin" 1 p_l_begin (spBegin K) := by
  refine F.cal (k := 0) sc_l_begin (fun vs H Q E h => ?_) (fun f cdv A outer s H vs Q E hr h => ?_)
  · unfold spBegin at h; split at h <;> first | rfl | exact h.elim
  · unfold spBegin at h
    split at h
    · rename_i a
      obtain ⟨ns, hq, hl, hpl, h⟩ := h
      have hu := hu_of hr
      have hu64 := hr.units
      refine ⟨_, (@pss_cons _ _ _ _ _ (@ps_set _ _ (1) _ _ _ _ sc_l_begin.nd rfl (by first | exact Or.inl rfl | exact Or.inr rfl) (@pe_callTy _ _ _ _ _ _ _ _ _ (call_listY rfl) (by rfl) T.b_list bt_list (@pa_cons _ _ _ _ _ (@pe_slice _ _ _ _ _ _ _ _ _ _ sl_list (@pv _ 0 _ _ (by rfl) (by first  | exact Or.inl rfl  | exact Or.inr (Or.inl rfl)  | exact Or.inr (Or.inr rfl)) (by decide) (by decide)) po_none (@po_some _ _ _ pe_int)) pa_nil (by rfl)) (by decide) (by decide) (by rfl) (by rfl)) (by rfl) (by first  | exact .inl rfl  | exact .inr rfl  | assumption)) (@pss_consC _ _ _ _ _ (@ps_if _ _ _ _ _ _ _ _ (@pt_cmpR _ _ _ _ _ _ _ _ (op_eqK (K := K) rfl hu64) (@pv _ 1 _ _ (by rfl) (by first  | exact Or.inl rfl  | exact Or.inr (Or.inl rfl)  | exact Or.inr (Or.inr rfl)) (by decide) (by decide)) (@pe_lst _ _ _ _ pa_nil) (nomark _)) (@pss_one _ _ _ (@ps_set _ _ (1) _ _ _ _ sc_l_begin.nd rfl (by first | exact Or.inl rfl | exact Or.inr rfl) (@pe_lst _ _ _ _ (@pa_cons _ _ _ _ _ pe_int pa_nil (by rfl))) (by rfl) (by first  | exact .inl rfl  | exact .inr rfl  | assumption))) pss_nil) (@pss_one _ _ _ (@ps_ret _ _ _ _ (@pe_disp _ _ _ _ _ (@pps_cons _ _ _ _ _ _ _ _ _ pe_str (@pv _ 1 _ _ (by rfl) (by first  | exact Or.inl rfl  | exact Or.inr (Or.inl rfl)  | exact Or.inr (Or.inr rfl)) (by decide) (by decide)) (@pps_cons _ _ _ _ _ _ _ _ _ pe_str pe_int pps_nil)) (by rfl) (by rfl) (fun z => by cases z) (by decide)))))), ?_⟩
      walk_at "rd"
      refine ⟨a, _, rfl, hq, fun q1 h1 => ?_⟩
      have hcut : cutV (ns.map V.int) none (some 63) = ns.map V.int := cut_all (by decide) (by rw [List.length_map]; omega)
      rw [hcut]
      walk_at "rd"
      refine fun q2 h2 => ?_
      have k2 : Kp [] H (upd (upd H q1 (.lst (ns.map V.int))) q2 (.lst (ns.map V.int))) := ((Kp.refl _ _).new h1).new h2
      have p2 : Pl (upd (upd H q1 (.lst (ns.map V.int))) q2 (.lst (ns.map V.int))) := (hpl.upd rfl).upd rfl
      have n2 : H q2 = none := (upd_none h2).1
      have g2 : (upd (upd H q1 (.lst (ns.map V.int))) q2 (.lst (ns.map V.int))) q2 = some (.lst (ns.map V.int)) := upd_same
      generalize upd (upd H q1 (.lst (ns.map V.int))) q2 (.lst (ns.map V.int)) = H2 at k2 p2 g2 ⊢
      refine e_cut (fun σ' H' => ∃ (q : Addr) (ms : List Int), σ' = [some (.ref a), some (.ref q)] ∧ H' q = some (.lst (ms.map V.int)) ∧ ms ≠ [] ∧ ms.length ≤ 63 ∧ H q = none ∧ Kp [] H H' ∧ Pl H') ?_ ?_
      · walk_at "rd"
        refine ⟨by decide, fun q3 h3 => ?_⟩
        have n3 : H q3 = none := k2.none h3 (by simp)
        refine e_eq_rr (Dp.ints (upd_keep h3 g2)) (Dp.ints (ns := []) upd_same) (Sh.list Sh.ints) (Sh.list Sh.ints) (q := ?_)
        rw [eqv_ll, eqv_ints]
        walk_at "rd"
        split
        · refine ⟨by decide, fun q4 h4 => ⟨q4, [_], rfl, upd_same, by simp, by decide, k2.none ((upd_none h4).1) (by simp), (k2.new h3).new h4, (p2.upd rfl).upd rfl⟩⟩
        · rename_i hne
          exact ⟨q2, ns, rfl, upd_keep h3 g2, hne, hl, n2, k2.new h3, p2.upd rfl⟩
      · rintro σ H3 ⟨q, ms, rfl, hq3, hne, hl3, n3, k3, p3⟩
        show tDisp _ _ _ _
        refine fun b hb => ?_
        simp only [tPairs, L2.start, tSeq, tAsg, tRet, tIfS, tNext, tDrop, tPar, tVar, tC, tOp, tUn, tCall, tCB, tCons, tNil, tTup, tLst, tTest, tNot, tTru, tAnd, tOr, tIf, tAndV, tOrV, tNotX, tB, tSl, tPart, tNoPart, tBX, tBX0, tChain, gName, gCons, gNil, gSub, rI_ii, rI0_ii, rU_i, ex_bl, ex_int, ex_some, ex_two, ex_cons, ex_str, ex_v, nil_and, e_add_ii, e_add_ss, e_add_rr, e_cat, e_mul_ii, e_mul_ri, e_rep, e_ix_s, e_ix_r, e_ixO_l, e_ixO_t, at_0, at_1, e_setX, e_setO_l, e_gTup, e_gTupO, e_len_s, e_len_r, e_lenO_l, e_lenO_t, e_lenO_d, e_abs, e_max, e_min, e_int_i, e_int_b, e_int_s, e_listO_l, e_listO_t, e_divmod, e_all, e_isi, e_eq_ii, e_eq_ss, e_eq_bb, e_ne_ii, e_ne_ss, e_ne_bb, e_tru_n, e_tru_b, e_tru_i, e_tru_s, e_tru_r, e_truO_l, e_truO_t, e_sl_s, e_sl_r, e_slO, e_app, e_appO, e_rev, e_revO, e_tyX_l, e_tyXO_l, e_tyX_s, e_iO_l, e_iO_t, e_upd_same, e_upd_ne, ne_eq, not_false_eq_true, e_isN_n, e_isN_i, e_isN_b, e_isN_s, e_isN_r, e_non, e_tyN_i, e_tyN_b, e_tyN_s, e_tyN_n, e_tyN_r, e_tyO_l, e_tyO_t, e_tyO_d, e_box_turn, e_box_cells, e_box_put, List.map_cons, List.map_nil, List.length_cons, List.length_nil, List.replicate, List.append_nil, List.nil_append, List.cons_append, List.getElem?_cons_zero, List.getElem?_cons_succ, List.set_cons_zero, List.set_cons_succ, Nat.reduceAdd, Nat.reduceSub, ite_t, ite_f, decide_eq_true_eq, reduceIte, true_and, and_true, Bool.not_true, Bool.not_false, m_bool, m_int, m_str, m_list, m_tuple, m_dict, isTab, String.reduceBEq, Bool.and_false, Bool.and_true, Bool.or_false, Bool.false_or, Bool.or_true, Bool.true_or, Bool.false_and, Bool.true_and, decide_true, decide_false, Bool.false_eq_true, reduceCtorEq, e_isi_lt, tAug, e_for, e_forR1, e_forR2, e_forR3, e_sortS, e_addT_ii, e_addT_ss, e_addT_rr, e_catT_l, e_catT_t, e_addW_ii, e_addW_ss, e_addW_rr, e_catW_l, e_catW_t, e_forZ, e_lc, e_lcR1, e_lcR2, e_lcZ, tRv, e_rv, tM1, e_join, e_spl, e_cnt, e_cntO, e_idx, tRaise, tTry, e_forEs, e_mulY_ii, e_mulY_ri, e_mulY_si, tTryS, tTryN, xAsg, xExp, xIf, e_forEl, e_stw, e_maxY_ii, e_maxY_r, e_minY_ii, e_minY_r, e_anyY, e_sumY, tLR1, tLR2, tPar3, ex_three, e_lcEs, e_strY_i, e_listY_r, e_listY_s, e_pop, e_popO, e_popAt, e_ext, e_clr, e_clrO, e_isB, e_isNB, e_lenS, e_lenSO, e_sc, at_2, at_3, e_cntS, tAsg2, e_other, e_lcEl, e_ins, e_insO, tAugS, e_getL, tChain3, tChain4, e_gLst, e_gLstO, tRvY, e_rvY_s, e_rvY_r, e_stp, tOrW, e_forZ3, e_sameW, tDDef, tDNewT, e_forEz, e_inS, e_ninS, tCBK]
        have hqb : q ≠ b := ne_of_none hq3 hb
        refine ⟨[(Sum.inr (Str.ofString "cells"), .ref q), (Sum.inr (Str.ofString "turn"), .int 0)], rfl, by show 2 ≤ 15; decide, ?_⟩
        rw [box_merge]
        refine told [] [b, q] ((p3.upd rfl).upd rfl) ((k3.new hb).upd (.inr (k3.none hb (by simp)))) fun H2 hch hke hp2 => h b q H2 (k3.none hb (by simp)) n3 (Box.mk' ((hke b (by simp)).trans upd_same) ((hke q (by simp)).trans (by rw [upd_ne hqb, upd_ne hqb]; exact hq3)) hne hl3 (by omega) (by omega)) (by simpa using hch) hp2
    · exact h.elim
theorem ok_l_take (F : Fn K mg "_law_take" s_l_take p_l_take) (T : Bl mg) : Cal P w K mg base "_law_take" 1 p_l_take spTake := by
  refine F.cal (k := 0) sc_l_take (fun vs H Q E h => ?_) (fun f cdv A outer s H vs Q E hr h => ?_)
  · unfold spTake at h; split at h <;> first | rfl | exact h.elim
  · unfold spTake at h
    split at h
    · rename_i b m
      obtain ⟨c, T0, hbx, hpl, hm1, hms, hT, h⟩ := h
      obtain ⟨ns, t, hb, hc, hne, hlen, ht0, htT⟩ := hbx.ex
      have hu := hu_of hr
      have hu64 := hr.units
      refine ⟨_, (@pss_cons _ _ _ _ _ (@ps_set _ _ (2) _ _ _ _ sc_l_take.nd rfl (by first | exact Or.inl rfl | exact Or.inr rfl) (@pe_op _ _ _ _ _ _ _ _ op_addX (@pe_ixX _ _ _ _ _ _ hu (@pv _ 0 _ _ (by rfl) (by first  | exact Or.inl rfl  | exact Or.inr (Or.inl rfl)  | exact Or.inr (Or.inr rfl)) (by decide) (by decide)) pe_str (fun _ _ => rfl)) pe_int) (by rfl) (by first  | exact .inl rfl  | exact .inr rfl  | assumption)) (@pss_cons _ _ _ _ _ (@ps_asg _ _ _ _ _ _ (@pv _ 2 _ _ (by rfl) (by first  | exact Or.inl rfl  | exact Or.inr (Or.inl rfl)  | exact Or.inr (Or.inr rfl)) (by decide) (by decide)) (@pg_sub _ _ _ _ _ _ _ (@pv _ 0 _ _ (by rfl) (by first  | exact Or.inl rfl  | exact Or.inr (Or.inl rfl)  | exact Or.inr (Or.inr rfl)) (by decide) (by decide)) pe_str (set_X hu) (by intro _; rfl)) (by rfl) (by rfl) (by rfl)) (@pss_cons _ _ _ _ _ (@ps_set _ _ (3) _ _ _ _ sc_l_take.nd rfl (by first | exact Or.inl rfl | exact Or.inr rfl) (@pe_op _ _ _ _ _ _ _ _ op_modN (@pv _ 2 _ _ (by rfl) (by first  | exact Or.inl rfl  | exact Or.inr (Or.inl rfl)  | exact Or.inr (Or.inr rfl)) (by decide) (by decide)) (@pe_callB _ _ _ _ _ _ _ _ _ call_lenX (by rfl) T.b_len bt_len (@pa_cons _ _ _ _ _ (@pe_ixX _ _ _ _ _ _ hu (@pv _ 0 _ _ (by rfl) (by first  | exact Or.inl rfl  | exact Or.inr (Or.inl rfl)  | exact Or.inr (Or.inr rfl)) (by decide) (by decide)) pe_str (fun _ _ => rfl)) pa_nil (by rfl)) (by decide) (by decide) (by rfl) (by rfl))) (by rfl) (by first  | exact .inl rfl  | exact .inr rfl  | assumption)) (@pss_cons _ _ _ _ _ (@ps_set _ _ (4) _ _ _ _ sc_l_take.nd rfl (by first | exact Or.inl rfl | exact Or.inr rfl) (@pe_ixX _ _ _ _ _ _ hu (@pe_ixX _ _ _ _ _ _ hu (@pv _ 0 _ _ (by rfl) (by first  | exact Or.inl rfl  | exact Or.inr (Or.inl rfl)  | exact Or.inr (Or.inr rfl)) (by decide) (by decide)) pe_str (fun _ _ => rfl)) (@pv _ 3 _ _ (by rfl) (by first  | exact Or.inl rfl  | exact Or.inr (Or.inl rfl)  | exact Or.inr (Or.inr rfl)) (by decide) (by decide)) (fun _ _ => rfl)) (by rfl) (by first  | exact .inl rfl  | exact .inr rfl  | assumption)) (@pss_cons _ _ _ _ _ (@ps_if _ _ _ _ _ _ _ _ (@pt_cmpR _ _ _ _ _ _ _ _ op_ge (@pv _ 4 _ _ (by rfl) (by first  | exact Or.inl rfl  | exact Or.inr (Or.inl rfl)  | exact Or.inr (Or.inr rfl)) (by decide) (by decide)) (@pe_op _ _ _ _ _ _ _ _ op_pow pe_int pe_int) (nomark _)) (@pss_cons _ _ _ _ _ (@ps_asg _ _ _ _ _ _ (@pe_callB _ _ _ _ _ _ _ _ _ call_divmodX (by rfl) T.b_divmod bt_divmod (@pa_cons _ _ _ _ _ (@pv _ 4 _ _ (by rfl) (by first  | exact Or.inl rfl  | exact Or.inr (Or.inl rfl)  | exact Or.inr (Or.inr rfl)) (by decide) (by decide)) (@pa_cons _ _ _ _ _ (@pv _ 1 _ _ (by rfl) (by first  | exact Or.inl rfl  | exact Or.inr (Or.inl rfl)  | exact Or.inr (Or.inr rfl)) (by decide) (by decide)) pa_nil (by rfl)) (by rfl)) (by decide) (by decide) (by rfl) (by rfl)) (@pg_tupX _ _ _ _ (2) _ rfl (@pgs_cons _ _ _ _ _ (@pg_sub _ _ _ _ _ _ _ (@pe_ixX _ _ _ _ _ _ hu (@pv _ 0 _ _ (by rfl) (by first  | exact Or.inl rfl  | exact Or.inr (Or.inl rfl)  | exact Or.inr (Or.inr rfl)) (by decide) (by decide)) pe_str (fun _ _ => rfl)) (@pv _ 3 _ _ (by rfl) (by first  | exact Or.inl rfl  | exact Or.inr (Or.inl rfl)  | exact Or.inr (Or.inr rfl)) (by decide) (by decide)) (set_X hu) (by intro _; rfl)) (@pgs_cons _ _ _ _ _ (@pg_name _ _ (5) _ sc_l_take.nd rfl (by first | exact Or.inl rfl | exact Or.inr rfl) (by first  | exact .inl rfl  | exact .inr rfl  | assumption)) pgs_nil (by rfl)) (by rfl)) (by rfl) (by rfl)) (by rfl) (by rfl) (by rfl)) (@pss_one _ _ _ (@ps_ret _ _ _ _ (@pv _ 5 _ _ (by rfl) (by first  | exact Or.inl rfl  | exact Or.inr (Or.inl rfl)  | exact Or.inr (Or.inr rfl)) (by decide) (by decide))))) pss_nil) (@pss_cons _ _ _ _ _ (@ps_set _ _ (6) _ _ _ _ sc_l_take.nd rfl (by first | exact Or.inl rfl | exact Or.inr rfl) (@pe_op _ _ _ _ _ _ _ _ op_modN (@pe_op _ _ _ _ _ _ _ _ op_mulY (@pe_op _ _ _ _ _ _ _ _ op_addX (@pe_op _ _ _ _ _ _ _ _ op_addX (@pe_op _ _ _ _ _ _ _ _ op_modN (@pv _ 4 _ _ (by rfl) (by first  | exact Or.inl rfl  | exact Or.inr (Or.inl rfl)  | exact Or.inr (Or.inr rfl)) (by decide) (by decide)) pe_int) (@pe_op _ _ _ _ _ _ _ _ op_mulY (@pe_op _ _ _ _ _ _ _ _ op_mulY (@pv _ 2 _ _ (by rfl) (by first  | exact Or.inl rfl  | exact Or.inr (Or.inl rfl)  | exact Or.inr (Or.inr rfl)) (by decide) (by decide)) (@pv _ 2 _ _ (by rfl) (by first  | exact Or.inl rfl  | exact Or.inr (Or.inl rfl)  | exact Or.inr (Or.inr rfl)) (by decide) (by decide))) pe_int)) pe_int) pe_int) pe_int) (by rfl) (by first  | exact .inl rfl  | exact .inr rfl  | assumption)) (@pss_cons _ _ _ _ _ (@ps_set _ _ (6) _ _ _ _ sc_l_take.nd rfl (by first | exact Or.inl rfl | exact Or.inr rfl) (@pe_op _ _ _ _ _ _ _ _ op_modN (@pe_op _ _ _ _ _ _ _ _ op_mulY (@pv _ 6 _ _ (by rfl) (by first  | exact Or.inl rfl  | exact Or.inr (Or.inl rfl)  | exact Or.inr (Or.inr rfl)) (by decide) (by decide)) (@pv _ 6 _ _ (by rfl) (by first  | exact Or.inl rfl  | exact Or.inr (Or.inl rfl)  | exact Or.inr (Or.inr rfl)) (by decide) (by decide))) pe_int) (by rfl) (by first  | exact .inl rfl  | exact .inr rfl  | assumption)) (@pss_one _ _ _ (@ps_ret _ _ _ _ (@pe_op _ _ _ _ _ _ _ _ op_modN (@pe_op _ _ _ _ _ _ _ _ op_fdivL (@pe_op _ _ _ _ _ _ _ _ op_modN (@pe_op _ _ _ _ _ _ _ _ op_mulY (@pe_op _ _ _ _ _ _ _ _ op_addX (@pv _ 6 _ _ (by rfl) (by first  | exact Or.inl rfl  | exact Or.inr (Or.inl rfl)  | exact Or.inr (Or.inr rfl)) (by decide) (by decide)) (@pe_op _ _ _ _ _ _ _ _ op_mulY (@pv _ 2 _ _ (by rfl) (by first  | exact Or.inl rfl  | exact Or.inr (Or.inl rfl)  | exact Or.inr (Or.inr rfl)) (by decide) (by decide)) pe_int)) pe_int) pe_int) pe_int) (@pv _ 1 _ _ (by rfl) (by first  | exact Or.inl rfl  | exact Or.inr (Or.inl rfl)  | exact Or.inr (Or.inr rfl)) (by decide) (by decide)))))))))))), ?_⟩
      have hcb : c ≠ b := hbx.ne.symm
      have hlp : (0 : Int) < ns.length := by cases ns with | nil => exact absurd rfl hne | cons _ _ => simp
      have i0 := fm_nn (t + 1) hlp
      have i1 := fm_lt (t + 1) hlp
      obtain ⟨n, hat, hget⟩ := at_ints i0 i1
      have hm0 : ¬ m = 0 := by omega
      have hB : ∀ (H' : Hp) (ns' : List Int), H' b = some (boxD c (t + 1)) → H' c = some (.lst (ns'.map V.int)) → ns'.length = ns.length → Box H' b c (T0 + 1) := fun H' ns' e1 e2 e3 =>
        Box.mk' e1 e2 (by intro z; rw [z] at e3; simp at e3; omega) (by omega) (by omega) (by omega)
      have hfin := h
      clear h
      suffices hs : ∀ (d : Int) (H' : Hp) (ns' : List Int), 0 ≤ d → d < m → H' b = some (boxD c (t + 1)) → H' c = some (.lst (ns'.map V.int)) → ns'.length = ns.length → Pl H' → Kp [b, c] H H' → Told H Q (.int d) H' by
        clear hfin hB hbx
        simp only [L2.start, tSeq, tAsg, tRet, tIfS, tNext, tDrop, tPar, tVar, tC, tOp, tUn, tCall, tCB, tCons, tNil, tTup, tLst, tTest, tNot, tTru, tAnd, tOr, tIf, tAndV, tOrV, tNotX, tB, tSl, tPart, tNoPart, tBX, tBX0, tChain, gName, gCons, gNil, gSub, rI_ii, rI0_ii, rU_i, ex_bl, ex_int, ex_some, ex_two, ex_cons, ex_str, ex_v, nil_and, e_add_ii, e_add_ss, e_add_rr, e_cat, e_mul_ii, e_mul_ri, e_rep, e_ix_s, e_ix_r, e_ixO_l, e_ixO_t, at_0, at_1, e_setX, e_setO_l, e_gTup, e_gTupO, e_len_s, e_len_r, e_lenO_l, e_lenO_t, e_lenO_d, e_abs, e_max, e_min, e_int_i, e_int_b, e_int_s, e_listO_l, e_listO_t, e_divmod, e_all, e_isi, e_eq_ii, e_eq_ss, e_eq_bb, e_ne_ii, e_ne_ss, e_ne_bb, e_tru_n, e_tru_b, e_tru_i, e_tru_s, e_tru_r, e_truO_l, e_truO_t, e_sl_s, e_sl_r, e_slO, e_app, e_appO, e_rev, e_revO, e_tyX_l, e_tyXO_l, e_tyX_s, e_iO_l, e_iO_t, e_upd_same, e_upd_ne, ne_eq, not_false_eq_true, e_isN_n, e_isN_i, e_isN_b, e_isN_s, e_isN_r, e_non, e_tyN_i, e_tyN_b, e_tyN_s, e_tyN_n, e_tyN_r, e_tyO_l, e_tyO_t, e_tyO_d, e_box_turn, e_box_cells, e_box_put, List.map_cons, List.map_nil, List.length_cons, List.length_nil, List.replicate, List.append_nil, List.nil_append, List.cons_append, List.getElem?_cons_zero, List.getElem?_cons_succ, List.set_cons_zero, List.set_cons_succ, Nat.reduceAdd, Nat.reduceSub, ite_t, ite_f, decide_eq_true_eq, reduceIte, true_and, and_true, Bool.not_true, Bool.not_false, m_bool, m_int, m_str, m_list, m_tuple, m_dict, isTab, String.reduceBEq, Bool.and_false, Bool.and_true, Bool.or_false, Bool.false_or, Bool.or_true, Bool.true_or, Bool.false_and, Bool.true_and, decide_true, decide_false, Bool.false_eq_true, reduceCtorEq, e_isi_lt, tAug, e_for, e_forR1, e_forR2, e_forR3, e_sortS, e_addT_ii, e_addT_ss, e_addT_rr, e_catT_l, e_catT_t, e_addW_ii, e_addW_ss, e_addW_rr, e_catW_l, e_catW_t, e_forZ, e_lc, e_lcR1, e_lcR2, e_lcZ, tRv, e_rv, tM1, e_join, e_spl, e_cnt, e_cntO, e_idx, tRaise, tTry, e_forEs, e_mulY_ii, e_mulY_ri, e_mulY_si, tTryS, tTryN, xAsg, xExp, xIf, e_forEl, e_stw, e_maxY_ii, e_maxY_r, e_minY_ii, e_minY_r, e_anyY, e_sumY, tLR1, tLR2, tPar3, ex_three, e_lcEs, e_strY_i, e_listY_r, e_listY_s, e_pop, e_popO, e_popAt, e_ext, e_clr, e_clrO, e_isB, e_isNB, e_lenS, e_lenSO, e_sc, at_2, at_3, e_cntS, tAsg2, e_other, e_lcEl, e_ins, e_insO, tAugS, e_getL, tChain3, tChain4, e_gLst, e_gLstO, tRvY, e_rvY_s, e_rvY_r, e_stp, tOrW, e_forZ3, e_sameW, tDDef, tDNewT, e_forEz, e_inS, e_ninS, tCBK, hb, hc, hcb, List.length_map]
        refine ⟨by omega, .int n, hat, ⟨by decide, by decide, by decide⟩, ?_⟩
        simp only [L2.start, tSeq, tAsg, tRet, tIfS, tNext, tDrop, tPar, tVar, tC, tOp, tUn, tCall, tCB, tCons, tNil, tTup, tLst, tTest, tNot, tTru, tAnd, tOr, tIf, tAndV, tOrV, tNotX, tB, tSl, tPart, tNoPart, tBX, tBX0, tChain, gName, gCons, gNil, gSub, rI_ii, rI0_ii, rU_i, ex_bl, ex_int, ex_some, ex_two, ex_cons, ex_str, ex_v, nil_and, e_add_ii, e_add_ss, e_add_rr, e_cat, e_mul_ii, e_mul_ri, e_rep, e_ix_s, e_ix_r, e_ixO_l, e_ixO_t, at_0, at_1, e_setX, e_setO_l, e_gTup, e_gTupO, e_len_s, e_len_r, e_lenO_l, e_lenO_t, e_lenO_d, e_abs, e_max, e_min, e_int_i, e_int_b, e_int_s, e_listO_l, e_listO_t, e_divmod, e_all, e_isi, e_eq_ii, e_eq_ss, e_eq_bb, e_ne_ii, e_ne_ss, e_ne_bb, e_tru_n, e_tru_b, e_tru_i, e_tru_s, e_tru_r, e_truO_l, e_truO_t, e_sl_s, e_sl_r, e_slO, e_app, e_appO, e_rev, e_revO, e_tyX_l, e_tyXO_l, e_tyX_s, e_iO_l, e_iO_t, e_upd_same, e_upd_ne, ne_eq, not_false_eq_true, e_isN_n, e_isN_i, e_isN_b, e_isN_s, e_isN_r, e_non, e_tyN_i, e_tyN_b, e_tyN_s, e_tyN_n, e_tyN_r, e_tyO_l, e_tyO_t, e_tyO_d, e_box_turn, e_box_cells, e_box_put, List.map_cons, List.map_nil, List.length_cons, List.length_nil, List.replicate, List.append_nil, List.nil_append, List.cons_append, List.getElem?_cons_zero, List.getElem?_cons_succ, List.set_cons_zero, List.set_cons_succ, Nat.reduceAdd, Nat.reduceSub, ite_t, ite_f, decide_eq_true_eq, reduceIte, true_and, and_true, Bool.not_true, Bool.not_false, m_bool, m_int, m_str, m_list, m_tuple, m_dict, isTab, String.reduceBEq, Bool.and_false, Bool.and_true, Bool.or_false, Bool.false_or, Bool.or_true, Bool.true_or, Bool.false_and, Bool.true_and, decide_true, decide_false, Bool.false_eq_true, reduceCtorEq, e_isi_lt, tAug, e_for, e_forR1, e_forR2, e_forR3, e_sortS, e_addT_ii, e_addT_ss, e_addT_rr, e_catT_l, e_catT_t, e_addW_ii, e_addW_ss, e_addW_rr, e_catW_l, e_catW_t, e_forZ, e_lc, e_lcR1, e_lcR2, e_lcZ, tRv, e_rv, tM1, e_join, e_spl, e_cnt, e_cntO, e_idx, tRaise, tTry, e_forEs, e_mulY_ii, e_mulY_ri, e_mulY_si, tTryS, tTryN, xAsg, xExp, xIf, e_forEl, e_stw, e_maxY_ii, e_maxY_r, e_minY_ii, e_minY_r, e_anyY, e_sumY, tLR1, tLR2, tPar3, ex_three, e_lcEs, e_strY_i, e_listY_r, e_listY_s, e_pop, e_popO, e_popAt, e_ext, e_clr, e_clrO, e_isB, e_isNB, e_lenS, e_lenSO, e_sc, at_2, at_3, e_cntS, tAsg2, e_other, e_lcEl, e_ins, e_insO, tAugS, e_getL, tChain3, tChain4, e_gLst, e_gLstO, tRvY, e_rvY_s, e_rvY_r, e_stp, tOrW, e_forZ3, e_sameW, tDDef, tDNewT, e_forEz, e_inS, e_ninS, tCBK, hm0]
        split
        · refine ⟨⟨hm0, hms⟩, fun q hq => ?_⟩
          have hqb : q ≠ b := fun e => by rw [e, upd_same] at hq; cases hq
          have hq' : H q = none := by rw [upd_ne hqb] at hq; exact hq
          have hcq : c ≠ q := ne_of_none hc hq'
          simp only [L2.start, tSeq, tAsg, tRet, tIfS, tNext, tDrop, tPar, tVar, tC, tOp, tUn, tCall, tCB, tCons, tNil, tTup, tLst, tTest, tNot, tTru, tAnd, tOr, tIf, tAndV, tOrV, tNotX, tB, tSl, tPart, tNoPart, tBX, tBX0, tChain, gName, gCons, gNil, gSub, rI_ii, rI0_ii, rU_i, ex_bl, ex_int, ex_some, ex_two, ex_cons, ex_str, ex_v, nil_and, e_add_ii, e_add_ss, e_add_rr, e_cat, e_mul_ii, e_mul_ri, e_rep, e_ix_s, e_ix_r, e_ixO_l, e_ixO_t, at_0, at_1, e_setX, e_setO_l, e_gTup, e_gTupO, e_len_s, e_len_r, e_lenO_l, e_lenO_t, e_lenO_d, e_abs, e_max, e_min, e_int_i, e_int_b, e_int_s, e_listO_l, e_listO_t, e_divmod, e_all, e_isi, e_eq_ii, e_eq_ss, e_eq_bb, e_ne_ii, e_ne_ss, e_ne_bb, e_tru_n, e_tru_b, e_tru_i, e_tru_s, e_tru_r, e_truO_l, e_truO_t, e_sl_s, e_sl_r, e_slO, e_app, e_appO, e_rev, e_revO, e_tyX_l, e_tyXO_l, e_tyX_s, e_iO_l, e_iO_t, e_upd_same, e_upd_ne, ne_eq, not_false_eq_true, e_isN_n, e_isN_i, e_isN_b, e_isN_s, e_isN_r, e_non, e_tyN_i, e_tyN_b, e_tyN_s, e_tyN_n, e_tyN_r, e_tyO_l, e_tyO_t, e_tyO_d, e_box_turn, e_box_cells, e_box_put, List.map_cons, List.map_nil, List.length_cons, List.length_nil, List.replicate, List.append_nil, List.nil_append, List.cons_append, List.getElem?_cons_zero, List.getElem?_cons_succ, List.set_cons_zero, List.set_cons_succ, Nat.reduceAdd, Nat.reduceSub, ite_t, ite_f, decide_eq_true_eq, reduceIte, true_and, and_true, Bool.not_true, Bool.not_false, m_bool, m_int, m_str, m_list, m_tuple, m_dict, isTab, String.reduceBEq, Bool.and_false, Bool.and_true, Bool.or_false, Bool.false_or, Bool.or_true, Bool.true_or, Bool.false_and, Bool.true_and, decide_true, decide_false, Bool.false_eq_true, reduceCtorEq, e_isi_lt, tAug, e_for, e_forR1, e_forR2, e_forR3, e_sortS, e_addT_ii, e_addT_ss, e_addT_rr, e_catT_l, e_catT_t, e_addW_ii, e_addW_ss, e_addW_rr, e_catW_l, e_catW_t, e_forZ, e_lc, e_lcR1, e_lcR2, e_lcZ, tRv, e_rv, tM1, e_join, e_spl, e_cnt, e_cntO, e_idx, tRaise, tTry, e_forEs, e_mulY_ii, e_mulY_ri, e_mulY_si, tTryS, tTryN, xAsg, xExp, xIf, e_forEl, e_stw, e_maxY_ii, e_maxY_r, e_minY_ii, e_minY_r, e_anyY, e_sumY, tLR1, tLR2, tPar3, ex_three, e_lcEs, e_strY_i, e_listY_r, e_listY_s, e_pop, e_popO, e_popAt, e_ext, e_clr, e_clrO, e_isB, e_isNB, e_lenS, e_lenSO, e_sc, at_2, at_3, e_cntS, tAsg2, e_other, e_lcEl, e_ins, e_insO, tAugS, e_getL, tChain3, tChain4, e_gLst, e_gLstO, tRvY, e_rvY_s, e_rvY_r, e_stp, tOrW, e_forZ3, e_sameW, tDDef, tDNewT, e_forEz, e_inS, e_ninS, tCBK, hqb, hqb.symm, hcq, hcb, hc, List.length_map]
          refine ⟨_, ixN_in i0 i1, ?_⟩
          rw [set_ints]
          refine hs _ _ _ (fm_nn n (by omega)) (fm_lt n (by omega)) ?_ upd_same (by simp) ?_ ?_
          · rw [upd_ne hcb.symm, upd_ne hqb.symm, upd_same]
          · exact ((hpl.upd rfl).upd rfl).upd rfl
          · exact (((Kp.refl [b, c] H).upd (.inl (by simp))).upd (.inr hq')).upd (.inl (by simp))
        · have ht1 : t + 1 < 4611686018427387904 := by omega
          repeat' refine And.intro ?_ ?_
          all_goals first
            | decide
            | exact mul_l (by decide) (by decide)
            | exact mul_r (by decide) (by decide)
            | exact mul_fm (by decide) (by decide)
            | exact mul_r (by omega) (by omega)
            | exact ⟨by decide, by decide⟩
            | exact hs _ _ ns (fm_nn _ (by omega)) (fm_lt _ (by omega)) upd_same (by rw [upd_ne hcb]; exact hc) rfl (hpl.upd rfl) ((Kp.refl [b, c] H).upd (.inl (by simp)))
      intro d H' ns' h0 h1 e1 e2 e3 hpl' hk
      refine told [b, c] [] hpl' hk fun H2 hch hke hp2 => hfin d H2 h0 h1 (hB H2 ns' ((hke b (by simp)).trans e1) ((hke c (by simp)).trans e2) e3) (by simpa using hch) hp2
    · exact h.elim
theorem ok_l_same (F : Fn K mg "_law_same" s_l_same p_l_same) (T : Bl mg) : ∀ n, Cal P w K mg base "_law_same" n p_l_same (spSame n)
  | 0 => cal_false F
  | n + 1 => by
    have c_l_same := ok_l_same F T n
    refine F.cal (k := n) sc_l_same (fun vs H Q E h => ?_) (fun f cdv A outer s H vs Q E hr h => ?_)
    · obtain ⟨x, y, rfl, _⟩ := spSame_of h; rfl
    · obtain ⟨x, y, rfl, hsm, hpl, hq⟩ := spSame_of h
      · clear h
        have hu := hu_of hr
        have hu64 := hr.units
        refine ⟨_, (@pss_cons _ _ _ _ _ (@ps_if _ _ _ _ _ _ _ _ (@pt_cmpR _ _ _ _ _ _ _ _ op_isN (@pv _ 1 _ _ (by rfl) (by first  | exact Or.inl rfl  | exact Or.inr (Or.inl rfl)  | exact Or.inr (Or.inr rfl)) (by decide) (by decide)) pe_non (nomark _)) (@pss_one _ _ _ (@ps_ret _ _ _ _ (@pe_cmpR _ _ _ _ _ _ _ _ op_isN (@pv _ 0 _ _ (by rfl) (by first  | exact Or.inl rfl  | exact Or.inr (Or.inl rfl)  | exact Or.inr (Or.inr rfl)) (by decide) (by decide)) pe_non (nomark _)))) pss_nil) (@pss_cons _ _ _ _ _ (@ps_if _ _ _ _ _ _ _ _ (PW.pt (@pw_or _ _ _ _ _ _ _ (@pt_truX _ _ _ (@pe_callB _ _ _ _ _ _ _ _ _ call_isiX (by rfl) T.b_isinstance bt_isinstance (@pa_cons _ _ _ _ _ (@pv _ 1 _ _ (by rfl) (by first  | exact Or.inl rfl  | exact Or.inr (Or.inl rfl)  | exact Or.inr (Or.inr rfl)) (by decide) (by decide)) (@pa_cons _ _ _ _ _ (@pe_tyN _ _ _ _ (by rfl) T.b_list bt_list (by decide) (by decide)) pa_nil (by rfl)) (by rfl)) (by decide) (by decide) (by rfl) (by rfl)) (by intro _; rfl)) (@pw_or1 _ _ _ _ (@pt_truX _ _ _ (@pe_callB _ _ _ _ _ _ _ _ _ call_isiX (by rfl) T.b_isinstance bt_isinstance (@pa_cons _ _ _ _ _ (@pv _ 1 _ _ (by rfl) (by first  | exact Or.inl rfl  | exact Or.inr (Or.inl rfl)  | exact Or.inr (Or.inr rfl)) (by decide) (by decide)) (@pa_cons _ _ _ _ _ (@pe_tyN _ _ _ _ (by rfl) T.b_tuple bt_tuple (by decide) (by decide)) pa_nil (by rfl)) (by rfl)) (by decide) (by decide) (by rfl) (by rfl)) (by intro _; rfl))))) (@pss_cons _ _ _ _ _ (@ps_if _ _ _ _ _ _ _ _ (@pt_cmpR _ _ _ _ _ _ _ _ (op_neK (K := K) rfl hu64) (@pe_callB _ _ _ _ _ _ _ _ _ call_isiX (by rfl) T.b_isinstance bt_isinstance (@pa_cons _ _ _ _ _ (@pv _ 0 _ _ (by rfl) (by first  | exact Or.inl rfl  | exact Or.inr (Or.inl rfl)  | exact Or.inr (Or.inr rfl)) (by decide) (by decide)) (@pa_cons _ _ _ _ _ (@pe_tyN _ _ _ _ (by rfl) T.b_list bt_list (by decide) (by decide)) pa_nil (by rfl)) (by rfl)) (by decide) (by decide) (by rfl) (by rfl)) (@pe_callB _ _ _ _ _ _ _ _ _ call_isiX (by rfl) T.b_isinstance bt_isinstance (@pa_cons _ _ _ _ _ (@pv _ 1 _ _ (by rfl) (by first  | exact Or.inl rfl  | exact Or.inr (Or.inl rfl)  | exact Or.inr (Or.inr rfl)) (by decide) (by decide)) (@pa_cons _ _ _ _ _ (@pe_tyN _ _ _ _ (by rfl) T.b_list bt_list (by decide) (by decide)) pa_nil (by rfl)) (by rfl)) (by decide) (by decide) (by rfl) (by rfl)) (nomark _)) (@pss_one _ _ _ (@ps_ret _ _ _ _ pe_bl)) pss_nil) (@pss_cons _ _ _ _ _ (@ps_if _ _ _ _ _ _ _ _ (PW.pt (@pw_or _ _ _ _ _ _ _ (@pt_cmpR _ _ _ _ _ _ _ _ (op_neK (K := K) rfl hu64) (@pe_callB _ _ _ _ _ _ _ _ _ call_isiX (by rfl) T.b_isinstance bt_isinstance (@pa_cons _ _ _ _ _ (@pv _ 0 _ _ (by rfl) (by first  | exact Or.inl rfl  | exact Or.inr (Or.inl rfl)  | exact Or.inr (Or.inr rfl)) (by decide) (by decide)) (@pa_cons _ _ _ _ _ (@pe_tyN _ _ _ _ (by rfl) T.b_tuple bt_tuple (by decide) (by decide)) pa_nil (by rfl)) (by rfl)) (by decide) (by decide) (by rfl) (by rfl)) (@pe_callB _ _ _ _ _ _ _ _ _ call_isiX (by rfl) T.b_isinstance bt_isinstance (@pa_cons _ _ _ _ _ (@pv _ 1 _ _ (by rfl) (by first  | exact Or.inl rfl  | exact Or.inr (Or.inl rfl)  | exact Or.inr (Or.inr rfl)) (by decide) (by decide)) (@pa_cons _ _ _ _ _ (@pe_tyN _ _ _ _ (by rfl) T.b_tuple bt_tuple (by decide) (by decide)) pa_nil (by rfl)) (by rfl)) (by decide) (by decide) (by rfl) (by rfl)) (nomark _)) (@pw_or1 _ _ _ _ (@pt_cmpR _ _ _ _ _ _ _ _ (op_neK (K := K) rfl hu64) (@pe_callB _ _ _ _ _ _ _ _ _ call_lenX (by rfl) T.b_len bt_len (@pa_cons _ _ _ _ _ (@pv _ 0 _ _ (by rfl) (by first  | exact Or.inl rfl  | exact Or.inr (Or.inl rfl)  | exact Or.inr (Or.inr rfl)) (by decide) (by decide)) pa_nil (by rfl)) (by decide) (by decide) (by rfl) (by rfl)) (@pe_callB _ _ _ _ _ _ _ _ _ call_lenX (by rfl) T.b_len bt_len (@pa_cons _ _ _ _ _ (@pv _ 1 _ _ (by rfl) (by first  | exact Or.inl rfl  | exact Or.inr (Or.inl rfl)  | exact Or.inr (Or.inr rfl)) (by decide) (by decide)) pa_nil (by rfl)) (by decide) (by decide) (by rfl) (by rfl)) (nomark _))))) (@pss_one _ _ _ (@ps_ret _ _ _ _ pe_bl)) pss_nil) (@pss_one _ _ _ (@ps_ret _ _ _ _ (@pe_callB _ _ _ _ _ _ _ _ _ (call_allX rfl) (by rfl) T.b_all bt_all (@pa_cons _ _ _ _ _ (@pe_lc _ _ _ _ _ _ ([("_law_one", 2), ("_law_other", 3)]) _ _ _ _ _ (by rfl) sc_l_same.nd (@pi_zipX _ _ _ _ _ _ _ _ _ (by rfl) T.b_zip (@pa_cons _ _ _ _ _ (@pv _ 0 _ _ (by rfl) (by first  | exact Or.inl rfl  | exact Or.inr (Or.inl rfl)  | exact Or.inr (Or.inr rfl)) (by decide) (by decide)) (@pa_cons _ _ _ _ _ (@pv _ 1 _ _ (by rfl) (by first  | exact Or.inl rfl  | exact Or.inr (Or.inl rfl)  | exact Or.inr (Or.inr rfl)) (by decide) (by decide)) pa_nil (by rfl)) (by rfl)) (by rfl) (by rfl)) (blkOk_by (own := [("_law_one", 2), ("_law_other", 3)]) (N := ["_law_found", "_law_due", "_law_one", "_law_other"]) (sc := defScope s_l_same) (by decide +kernel)) (fun _ _ _ _ _ => (@pg_tupX _ _ _ _ (2) _ rfl (@pgs_cons _ _ _ _ _ (@pg_name _ _ (2) _ sc_l_same.nd rfl (by first | exact Or.inl rfl | exact Or.inr rfl) (by first  | exact .inl rfl  | exact .inr rfl  | assumption)) (@pgs_cons _ _ _ _ _ (@pg_name _ _ (3) _ sc_l_same.nd rfl (by first | exact Or.inl rfl | exact Or.inr rfl) (by first  | exact .inl rfl  | exact .inr rfl  | assumption)) pgs_nil (by rfl)) (by rfl)) (by rfl) (by rfl))) (fun _ _ _ _ _ => pts_nil) (fun _ _ _ _ _ => (@pe_cal _ _ _ _ _ _ _ _ _ _ c_l_same (hr.mono (by first | decide | omega)) (by rfl) (@pa_cons _ _ _ _ _ (@pv _ 2 _ _ (by rfl) (by first  | exact Or.inl rfl  | exact Or.inr (Or.inl rfl)  | exact Or.inr (Or.inr rfl)) (by decide) (by decide)) (@pa_cons _ _ _ _ _ (@pv _ 3 _ _ (by rfl) (by first  | exact Or.inl rfl  | exact Or.inr (Or.inl rfl)  | exact Or.inr (Or.inr rfl)) (by decide) (by decide)) pa_nil (by rfl)) (by rfl)) (by decide) (by rfl) (by rfl))) (by intro _; rfl)) pa_nil (by rfl)) (by decide) (by decide) (by rfl) (by rfl)))))) pss_nil) (@pss_cons _ _ _ _ _ (@ps_if _ _ _ _ _ _ _ _ (@pt_truX _ _ _ (@pe_callB _ _ _ _ _ _ _ _ _ call_isiX (by rfl) T.b_isinstance bt_isinstance (@pa_cons _ _ _ _ _ (@pv _ 1 _ _ (by rfl) (by first  | exact Or.inl rfl  | exact Or.inr (Or.inl rfl)  | exact Or.inr (Or.inr rfl)) (by decide) (by decide)) (@pa_cons _ _ _ _ _ (@pe_tyN _ _ _ _ (by rfl) T.b_str bt_str (by decide) (by decide)) pa_nil (by rfl)) (by rfl)) (by decide) (by decide) (by rfl) (by rfl)) (by intro _; rfl)) (@pss_one _ _ _ (@ps_ret _ _ _ _ (@pe_and _ _ _ _ _ _ _ (@pe_callB _ _ _ _ _ _ _ _ _ call_isiX (by rfl) T.b_isinstance bt_isinstance (@pa_cons _ _ _ _ _ (@pv _ 0 _ _ (by rfl) (by first  | exact Or.inl rfl  | exact Or.inr (Or.inl rfl)  | exact Or.inr (Or.inr rfl)) (by decide) (by decide)) (@pa_cons _ _ _ _ _ (@pe_tyN _ _ _ _ (by rfl) T.b_str bt_str (by decide) (by decide)) pa_nil (by rfl)) (by rfl)) (by decide) (by decide) (by rfl) (by rfl)) (@pe_one _ _ _ _ _ (@pe_cmpR _ _ _ _ _ _ _ _ (op_eqK (K := K) rfl hu64) (@pv _ 0 _ _ (by rfl) (by first  | exact Or.inl rfl  | exact Or.inr (Or.inl rfl)  | exact Or.inr (Or.inr rfl)) (by decide) (by decide)) (@pv _ 1 _ _ (by rfl) (by first  | exact Or.inl rfl  | exact Or.inr (Or.inl rfl)  | exact Or.inr (Or.inr rfl)) (by decide) (by decide)) (nomark _)))))) pss_nil) (@pss_cons _ _ _ _ _ (@ps_if _ _ _ _ _ _ _ _ (@pt_truX _ _ _ (@pe_callB _ _ _ _ _ _ _ _ _ call_isiX (by rfl) T.b_isinstance bt_isinstance (@pa_cons _ _ _ _ _ (@pv _ 1 _ _ (by rfl) (by first  | exact Or.inl rfl  | exact Or.inr (Or.inl rfl)  | exact Or.inr (Or.inr rfl)) (by decide) (by decide)) (@pa_cons _ _ _ _ _ (@pe_tyN _ _ _ _ (by rfl) T.b_bool bt_bool (by decide) (by decide)) pa_nil (by rfl)) (by rfl)) (by decide) (by decide) (by rfl) (by rfl)) (by intro _; rfl)) (@pss_one _ _ _ (@ps_ret _ _ _ _ (@pe_and _ _ _ _ _ _ _ (@pe_callB _ _ _ _ _ _ _ _ _ call_isiX (by rfl) T.b_isinstance bt_isinstance (@pa_cons _ _ _ _ _ (@pv _ 0 _ _ (by rfl) (by first  | exact Or.inl rfl  | exact Or.inr (Or.inl rfl)  | exact Or.inr (Or.inr rfl)) (by decide) (by decide)) (@pa_cons _ _ _ _ _ (@pe_tyN _ _ _ _ (by rfl) T.b_bool bt_bool (by decide) (by decide)) pa_nil (by rfl)) (by rfl)) (by decide) (by decide) (by rfl) (by rfl)) (@pe_one _ _ _ _ _ (@pe_cmpR _ _ _ _ _ _ _ _ (op_eqK (K := K) rfl hu64) (@pv _ 0 _ _ (by rfl) (by first  | exact Or.inl rfl  | exact Or.inr (Or.inl rfl)  | exact Or.inr (Or.inr rfl)) (by decide) (by decide)) (@pv _ 1 _ _ (by rfl) (by first  | exact Or.inl rfl  | exact Or.inr (Or.inl rfl)  | exact Or.inr (Or.inr rfl)) (by decide) (by decide)) (nomark _)))))) pss_nil) (@pss_one _ _ _ (@ps_ret _ _ _ _ (@pe_and _ _ _ _ _ _ _ (@pe_callB _ _ _ _ _ _ _ _ _ call_isiX (by rfl) T.b_isinstance bt_isinstance (@pa_cons _ _ _ _ _ (@pv _ 0 _ _ (by rfl) (by first  | exact Or.inl rfl  | exact Or.inr (Or.inl rfl)  | exact Or.inr (Or.inr rfl)) (by decide) (by decide)) (@pa_cons _ _ _ _ _ (@pe_tyN _ _ _ _ (by rfl) T.b_int bt_int (by decide) (by decide)) pa_nil (by rfl)) (by rfl)) (by decide) (by decide) (by rfl) (by rfl)) (@pe_and _ _ _ _ _ _ _ (@pe_notX _ _ _ _ (@pe_callB _ _ _ _ _ _ _ _ _ call_isiX (by rfl) T.b_isinstance bt_isinstance (@pa_cons _ _ _ _ _ (@pv _ 0 _ _ (by rfl) (by first  | exact Or.inl rfl  | exact Or.inr (Or.inl rfl)  | exact Or.inr (Or.inr rfl)) (by decide) (by decide)) (@pa_cons _ _ _ _ _ (@pe_tyN _ _ _ _ (by rfl) T.b_bool bt_bool (by decide) (by decide)) pa_nil (by rfl)) (by rfl)) (by decide) (by decide) (by rfl) (by rfl))) (@pe_one _ _ _ _ _ (@pe_cmpR _ _ _ _ _ _ _ _ (op_eqK (K := K) rfl hu64) (@pv _ 0 _ _ (by rfl) (by first  | exact Or.inl rfl  | exact Or.inr (Or.inl rfl)  | exact Or.inr (Or.inr rfl)) (by decide) (by decide)) (@pv _ 1 _ _ (by rfl) (by first  | exact Or.inl rfl  | exact Or.inr (Or.inl rfl)  | exact Or.inr (Or.inr rfl)) (by decide) (by decide)) (nomark _))))))))))), ?_⟩
        have fin : ∀ {H' : Hp}, Pl H' → Kp [] H H' → Told H Q (.bl true) H' := fun a b => told_pure a b hq
        rcases hsm with ⟨rfl, hf⟩ | ⟨a, b, xs, ys, rfl, rfl, h1, h2, h3, hz, h4⟩ | ⟨a, b, xs, ys, rfl, rfl, h1, h2, h3, hz, h4⟩
        · cases x with
          | non => walk_at "rd"; first | exact fin hpl (Kp.refl _ _) | exact ⟨by decide, fun p hp => fin (hpl.upd rfl) ((Kp.refl _ _).new hp)⟩
          | bl c => walk_at "rd"; first | exact fin hpl (Kp.refl _ _) | exact ⟨by decide, fun p hp => fin (hpl.upd rfl) ((Kp.refl _ _).new hp)⟩
          | int i => walk_at "rd"; first | exact fin hpl (Kp.refl _ _) | exact ⟨by decide, fun p hp => fin (hpl.upd rfl) ((Kp.refl _ _).new hp)⟩
          | str z => walk_at "rd"; first | exact fin hpl (Kp.refl _ _) | exact ⟨by decide, fun p hp => fin (hpl.upd rfl) ((Kp.refl _ _).new hp)⟩
          | _ => cases hf
        · simp only [L2.start, tSeq, tAsg, tRet, tIfS, tNext, tDrop, tPar, tVar, tC, tOp, tUn, tCall, tCB, tCons, tNil, tTup, tLst, tTest, tNot, tTru, tAnd, tOr, tIf, tAndV, tOrV, tNotX, tB, tSl, tPart, tNoPart, tBX, tBX0, tChain, gName, gCons, gNil, gSub, rI_ii, rI0_ii, rU_i, ex_bl, ex_int, ex_some, ex_two, ex_cons, ex_str, ex_v, nil_and, e_add_ii, e_add_ss, e_add_rr, e_cat, e_mul_ii, e_mul_ri, e_rep, e_ix_s, e_ix_r, e_ixO_l, e_ixO_t, at_0, at_1, e_setX, e_setO_l, e_gTup, e_gTupO, e_len_s, e_len_r, e_lenO_l, e_lenO_t, e_lenO_d, e_abs, e_max, e_min, e_int_i, e_int_b, e_int_s, e_listO_l, e_listO_t, e_divmod, e_all, e_isi, e_eq_ii, e_eq_ss, e_eq_bb, e_ne_ii, e_ne_ss, e_ne_bb, e_tru_n, e_tru_b, e_tru_i, e_tru_s, e_tru_r, e_truO_l, e_truO_t, e_sl_s, e_sl_r, e_slO, e_app, e_appO, e_rev, e_revO, e_tyX_l, e_tyXO_l, e_tyX_s, e_iO_l, e_iO_t, e_upd_same, e_upd_ne, ne_eq, not_false_eq_true, e_isN_n, e_isN_i, e_isN_b, e_isN_s, e_isN_r, e_non, e_tyN_i, e_tyN_b, e_tyN_s, e_tyN_n, e_tyN_r, e_tyO_l, e_tyO_t, e_tyO_d, e_box_turn, e_box_cells, e_box_put, List.map_cons, List.map_nil, List.length_cons, List.length_nil, List.replicate, List.append_nil, List.nil_append, List.cons_append, List.getElem?_cons_zero, List.getElem?_cons_succ, List.set_cons_zero, List.set_cons_succ, Nat.reduceAdd, Nat.reduceSub, ite_t, ite_f, decide_eq_true_eq, reduceIte, true_and, and_true, Bool.not_true, Bool.not_false, m_bool, m_int, m_str, m_list, m_tuple, m_dict, isTab, String.reduceBEq, Bool.and_false, Bool.and_true, Bool.or_false, Bool.false_or, Bool.or_true, Bool.true_or, Bool.false_and, Bool.true_and, decide_true, decide_false, Bool.false_eq_true, reduceCtorEq, e_isi_lt, tAug, e_for, e_forR1, e_forR2, e_forR3, e_sortS, e_addT_ii, e_addT_ss, e_addT_rr, e_catT_l, e_catT_t, e_addW_ii, e_addW_ss, e_addW_rr, e_catW_l, e_catW_t, e_forZ, e_lc, e_lcR1, e_lcR2, e_lcZ, tRv, e_rv, tM1, e_join, e_spl, e_cnt, e_cntO, e_idx, tRaise, tTry, e_forEs, e_mulY_ii, e_mulY_ri, e_mulY_si, tTryS, tTryN, xAsg, xExp, xIf, e_forEl, e_stw, e_maxY_ii, e_maxY_r, e_minY_ii, e_minY_r, e_anyY, e_sumY, tLR1, tLR2, tPar3, ex_three, e_lcEs, e_strY_i, e_listY_r, e_listY_s, e_pop, e_popO, e_popAt, e_ext, e_clr, e_clrO, e_isB, e_isNB, e_lenS, e_lenSO, e_sc, at_2, at_3, e_cntS, tAsg2, e_other, e_lcEl, e_ins, e_insO, tAugS, e_getL, tChain3, tChain4, e_gLst, e_gLstO, tRvY, e_rvY_s, e_rvY_r, e_stp, tOrW, e_forZ3, e_sameW, tDDef, tDNewT, e_forEz, e_inS, e_ninS, tCBK, h1, h2, h3]
          have k1 : Kp [] H H := Kp.refl _ _
          have p1 : Pl H := hpl
          refine lcZ_ok (H := H) (k1 := .L a) (k2 := .L b) (SqL.of (k1 a _ (by simp) h1)) (SqL.of (k1 b _ (by simp) h2)) (fun D i H' => H' D = some (.lst ((List.replicate i true).map V.bl)) ∧ Kp [] H H' ∧ Pl H') (fun D hD => ⟨upd_same, (Kp.refl _ _).new hD, p1.upd rfl⟩) (fun D i H' _ hP => ⟨SqL.of ((k1.trans hP.2.1) a _ (by simp) h1), SqL.of ((k1.trans hP.2.1) b _ (by simp) h2)⟩) ?_ ?_
          · rintro D i x y T H' hD hx hy hT ⟨hD', hk', hp'⟩
            have hDT : D ≠ T := ne_of_none hD' hT
            have k2 : Kp [] H (upd H' T (.tup [x, y])) := hk'.new hT
            have hsm := (h4 i x y hx hy).kp (k1.trans k2)
            simp only [turnC, wipe, tYes, L2.start, tSeq, tAsg, tRet, tIfS, tNext, tDrop, tPar, tVar, tC, tOp, tUn, tCall, tCB, tCons, tNil, tTup, tLst, tTest, tNot, tTru, tAnd, tOr, tIf, tAndV, tOrV, tNotX, tB, tSl, tPart, tNoPart, tBX, tBX0, tChain, gName, gCons, gNil, gSub, rI_ii, rI0_ii, rU_i, ex_bl, ex_int, ex_some, ex_two, ex_cons, ex_str, ex_v, nil_and, e_add_ii, e_add_ss, e_add_rr, e_cat, e_mul_ii, e_mul_ri, e_rep, e_ix_s, e_ix_r, e_ixO_l, e_ixO_t, at_0, at_1, e_setX, e_setO_l, e_gTup, e_gTupO, e_len_s, e_len_r, e_lenO_l, e_lenO_t, e_lenO_d, e_abs, e_max, e_min, e_int_i, e_int_b, e_int_s, e_listO_l, e_listO_t, e_divmod, e_all, e_isi, e_eq_ii, e_eq_ss, e_eq_bb, e_ne_ii, e_ne_ss, e_ne_bb, e_tru_n, e_tru_b, e_tru_i, e_tru_s, e_tru_r, e_truO_l, e_truO_t, e_sl_s, e_sl_r, e_slO, e_app, e_appO, e_rev, e_revO, e_tyX_l, e_tyXO_l, e_tyX_s, e_iO_l, e_iO_t, e_upd_same, e_upd_ne, ne_eq, not_false_eq_true, e_isN_n, e_isN_i, e_isN_b, e_isN_s, e_isN_r, e_non, e_tyN_i, e_tyN_b, e_tyN_s, e_tyN_n, e_tyN_r, e_tyO_l, e_tyO_t, e_tyO_d, e_box_turn, e_box_cells, e_box_put, List.map_cons, List.map_nil, List.length_cons, List.length_nil, List.replicate, List.append_nil, List.nil_append, List.cons_append, List.getElem?_cons_zero, List.getElem?_cons_succ, List.set_cons_zero, List.set_cons_succ, Nat.reduceAdd, Nat.reduceSub, ite_t, ite_f, decide_eq_true_eq, reduceIte, true_and, and_true, Bool.not_true, Bool.not_false, m_bool, m_int, m_str, m_list, m_tuple, m_dict, isTab, String.reduceBEq, Bool.and_false, Bool.and_true, Bool.or_false, Bool.false_or, Bool.or_true, Bool.true_or, Bool.false_and, Bool.true_and, decide_true, decide_false, Bool.false_eq_true, reduceCtorEq, e_isi_lt, tAug, e_for, e_forR1, e_forR2, e_forR3, e_sortS, e_addT_ii, e_addT_ss, e_addT_rr, e_catT_l, e_catT_t, e_addW_ii, e_addW_ss, e_addW_rr, e_catW_l, e_catW_t, e_forZ, e_lc, e_lcR1, e_lcR2, e_lcZ, tRv, e_rv, tM1, e_join, e_spl, e_cnt, e_cntO, e_idx, tRaise, tTry, e_forEs, e_mulY_ii, e_mulY_ri, e_mulY_si, tTryS, tTryN, xAsg, xExp, xIf, e_forEl, e_stw, e_maxY_ii, e_maxY_r, e_minY_ii, e_minY_r, e_anyY, e_sumY, tLR1, tLR2, tPar3, ex_three, e_lcEs, e_strY_i, e_listY_r, e_listY_s, e_pop, e_popO, e_popAt, e_ext, e_clr, e_clrO, e_isB, e_isNB, e_lenS, e_lenSO, e_sc, at_2, at_3, e_cntS, tAsg2, e_other, e_lcEl, e_ins, e_insO, tAugS, e_getL, tChain3, tChain4, e_gLst, e_gLstO, tRvY, e_rvY_s, e_rvY_r, e_stp, tOrW, e_forZ3, e_sameW, tDDef, tDNewT, e_forEz, e_inS, e_ninS, tCBK]
            cases n with
            | zero => exact hsm.elim
            | succ n =>
              simp only [L2.start, tSeq, tAsg, tRet, tIfS, tNext, tDrop, tPar, tVar, tC, tOp, tUn, tCall, tCB, tCons, tNil, tTup, tLst, tTest, tNot, tTru, tAnd, tOr, tIf, tAndV, tOrV, tNotX, tB, tSl, tPart, tNoPart, tBX, tBX0, tChain, gName, gCons, gNil, gSub, rI_ii, rI0_ii, rU_i, ex_bl, ex_int, ex_some, ex_two, ex_cons, ex_str, ex_v, nil_and, e_add_ii, e_add_ss, e_add_rr, e_cat, e_mul_ii, e_mul_ri, e_rep, e_ix_s, e_ix_r, e_ixO_l, e_ixO_t, at_0, at_1, e_setX, e_setO_l, e_gTup, e_gTupO, e_len_s, e_len_r, e_lenO_l, e_lenO_t, e_lenO_d, e_abs, e_max, e_min, e_int_i, e_int_b, e_int_s, e_listO_l, e_listO_t, e_divmod, e_all, e_isi, e_eq_ii, e_eq_ss, e_eq_bb, e_ne_ii, e_ne_ss, e_ne_bb, e_tru_n, e_tru_b, e_tru_i, e_tru_s, e_tru_r, e_truO_l, e_truO_t, e_sl_s, e_sl_r, e_slO, e_app, e_appO, e_rev, e_revO, e_tyX_l, e_tyXO_l, e_tyX_s, e_iO_l, e_iO_t, e_upd_same, e_upd_ne, ne_eq, not_false_eq_true, e_isN_n, e_isN_i, e_isN_b, e_isN_s, e_isN_r, e_non, e_tyN_i, e_tyN_b, e_tyN_s, e_tyN_n, e_tyN_r, e_tyO_l, e_tyO_t, e_tyO_d, e_box_turn, e_box_cells, e_box_put, List.map_cons, List.map_nil, List.length_cons, List.length_nil, List.replicate, List.append_nil, List.nil_append, List.cons_append, List.getElem?_cons_zero, List.getElem?_cons_succ, List.set_cons_zero, List.set_cons_succ, Nat.reduceAdd, Nat.reduceSub, ite_t, ite_f, decide_eq_true_eq, reduceIte, true_and, and_true, Bool.not_true, Bool.not_false, m_bool, m_int, m_str, m_list, m_tuple, m_dict, isTab, String.reduceBEq, Bool.and_false, Bool.and_true, Bool.or_false, Bool.false_or, Bool.or_true, Bool.true_or, Bool.false_and, Bool.true_and, decide_true, decide_false, Bool.false_eq_true, reduceCtorEq, e_isi_lt, tAug, e_for, e_forR1, e_forR2, e_forR3, e_sortS, e_addT_ii, e_addT_ss, e_addT_rr, e_catT_l, e_catT_t, e_addW_ii, e_addW_ss, e_addW_rr, e_catW_l, e_catW_t, e_forZ, e_lc, e_lcR1, e_lcR2, e_lcZ, tRv, e_rv, tM1, e_join, e_spl, e_cnt, e_cntO, e_idx, tRaise, tTry, e_forEs, e_mulY_ii, e_mulY_ri, e_mulY_si, tTryS, tTryN, xAsg, xExp, xIf, e_forEl, e_stw, e_maxY_ii, e_maxY_r, e_minY_ii, e_minY_r, e_anyY, e_sumY, tLR1, tLR2, tPar3, ex_three, e_lcEs, e_strY_i, e_listY_r, e_listY_s, e_pop, e_popO, e_popAt, e_ext, e_clr, e_clrO, e_isB, e_isNB, e_lenS, e_lenSO, e_sc, at_2, at_3, e_cntS, tAsg2, e_other, e_lcEl, e_ins, e_insO, tAugS, e_getL, tChain3, tChain4, e_gLst, e_gLstO, tRvY, e_rvY_s, e_rvY_r, e_stp, tOrW, e_forZ3, e_sameW, tDDef, tDNewT, e_forEz, e_inS, e_ninS, tCBK, e_same]
              refine ⟨hsm, hp'.upd rfl, _, by rw [upd_ne hDT]; exact hD', ?_, ?_⟩
              · have hi : i < xs.length := (List.getElem?_eq_some_iff.mp hx).1
                rw [List.length_map, List.length_replicate]
                exact Nat.lt_of_lt_of_le (Nat.lt_of_lt_of_le hi hz) (by decide)
              · rw [rep_snoc]
                exact ⟨rfl, k2.upd (.inr hD), (hp'.upd rfl).upd rfl⟩
          · rintro D H' hD ⟨hD', hk', hp'⟩
            exact ⟨List.replicate _ true, hD', by rw [bl_all]; exact fin hp' (k1.trans hk')⟩
        · simp only [L2.start, tSeq, tAsg, tRet, tIfS, tNext, tDrop, tPar, tVar, tC, tOp, tUn, tCall, tCB, tCons, tNil, tTup, tLst, tTest, tNot, tTru, tAnd, tOr, tIf, tAndV, tOrV, tNotX, tB, tSl, tPart, tNoPart, tBX, tBX0, tChain, gName, gCons, gNil, gSub, rI_ii, rI0_ii, rU_i, ex_bl, ex_int, ex_some, ex_two, ex_cons, ex_str, ex_v, nil_and, e_add_ii, e_add_ss, e_add_rr, e_cat, e_mul_ii, e_mul_ri, e_rep, e_ix_s, e_ix_r, e_ixO_l, e_ixO_t, at_0, at_1, e_setX, e_setO_l, e_gTup, e_gTupO, e_len_s, e_len_r, e_lenO_l, e_lenO_t, e_lenO_d, e_abs, e_max, e_min, e_int_i, e_int_b, e_int_s, e_listO_l, e_listO_t, e_divmod, e_all, e_isi, e_eq_ii, e_eq_ss, e_eq_bb, e_ne_ii, e_ne_ss, e_ne_bb, e_tru_n, e_tru_b, e_tru_i, e_tru_s, e_tru_r, e_truO_l, e_truO_t, e_sl_s, e_sl_r, e_slO, e_app, e_appO, e_rev, e_revO, e_tyX_l, e_tyXO_l, e_tyX_s, e_iO_l, e_iO_t, e_upd_same, e_upd_ne, ne_eq, not_false_eq_true, e_isN_n, e_isN_i, e_isN_b, e_isN_s, e_isN_r, e_non, e_tyN_i, e_tyN_b, e_tyN_s, e_tyN_n, e_tyN_r, e_tyO_l, e_tyO_t, e_tyO_d, e_box_turn, e_box_cells, e_box_put, List.map_cons, List.map_nil, List.length_cons, List.length_nil, List.replicate, List.append_nil, List.nil_append, List.cons_append, List.getElem?_cons_zero, List.getElem?_cons_succ, List.set_cons_zero, List.set_cons_succ, Nat.reduceAdd, Nat.reduceSub, ite_t, ite_f, decide_eq_true_eq, reduceIte, true_and, and_true, Bool.not_true, Bool.not_false, m_bool, m_int, m_str, m_list, m_tuple, m_dict, isTab, String.reduceBEq, Bool.and_false, Bool.and_true, Bool.or_false, Bool.false_or, Bool.or_true, Bool.true_or, Bool.false_and, Bool.true_and, decide_true, decide_false, Bool.false_eq_true, reduceCtorEq, e_isi_lt, tAug, e_for, e_forR1, e_forR2, e_forR3, e_sortS, e_addT_ii, e_addT_ss, e_addT_rr, e_catT_l, e_catT_t, e_addW_ii, e_addW_ss, e_addW_rr, e_catW_l, e_catW_t, e_forZ, e_lc, e_lcR1, e_lcR2, e_lcZ, tRv, e_rv, tM1, e_join, e_spl, e_cnt, e_cntO, e_idx, tRaise, tTry, e_forEs, e_mulY_ii, e_mulY_ri, e_mulY_si, tTryS, tTryN, xAsg, xExp, xIf, e_forEl, e_stw, e_maxY_ii, e_maxY_r, e_minY_ii, e_minY_r, e_anyY, e_sumY, tLR1, tLR2, tPar3, ex_three, e_lcEs, e_strY_i, e_listY_r, e_listY_s, e_pop, e_popO, e_popAt, e_ext, e_clr, e_clrO, e_isB, e_isNB, e_lenS, e_lenSO, e_sc, at_2, at_3, e_cntS, tAsg2, e_other, e_lcEl, e_ins, e_insO, tAugS, e_getL, tChain3, tChain4, e_gLst, e_gLstO, tRvY, e_rvY_s, e_rvY_r, e_stp, tOrW, e_forZ3, e_sameW, tDDef, tDNewT, e_forEz, e_inS, e_ninS, tCBK, h1, h2, h3]
          have k1 : Kp [] H H := Kp.refl _ _
          have p1 : Pl H := hpl
          refine lcZ_ok (H := H) (k1 := .T a) (k2 := .T b) (SqT.of (k1 a _ (by simp) h1)) (SqT.of (k1 b _ (by simp) h2)) (fun D i H' => H' D = some (.lst ((List.replicate i true).map V.bl)) ∧ Kp [] H H' ∧ Pl H') (fun D hD => ⟨upd_same, (Kp.refl _ _).new hD, p1.upd rfl⟩) (fun D i H' _ hP => ⟨SqT.of ((k1.trans hP.2.1) a _ (by simp) h1), SqT.of ((k1.trans hP.2.1) b _ (by simp) h2)⟩) ?_ ?_
          · rintro D i x y T H' hD hx hy hT ⟨hD', hk', hp'⟩
            have hDT : D ≠ T := ne_of_none hD' hT
            have k2 : Kp [] H (upd H' T (.tup [x, y])) := hk'.new hT
            have hsm := (h4 i x y hx hy).kp (k1.trans k2)
            simp only [turnC, wipe, tYes, L2.start, tSeq, tAsg, tRet, tIfS, tNext, tDrop, tPar, tVar, tC, tOp, tUn, tCall, tCB, tCons, tNil, tTup, tLst, tTest, tNot, tTru, tAnd, tOr, tIf, tAndV, tOrV, tNotX, tB, tSl, tPart, tNoPart, tBX, tBX0, tChain, gName, gCons, gNil, gSub, rI_ii, rI0_ii, rU_i, ex_bl, ex_int, ex_some, ex_two, ex_cons, ex_str, ex_v, nil_and, e_add_ii, e_add_ss, e_add_rr, e_cat, e_mul_ii, e_mul_ri, e_rep, e_ix_s, e_ix_r, e_ixO_l, e_ixO_t, at_0, at_1, e_setX, e_setO_l, e_gTup, e_gTupO, e_len_s, e_len_r, e_lenO_l, e_lenO_t, e_lenO_d, e_abs, e_max, e_min, e_int_i, e_int_b, e_int_s, e_listO_l, e_listO_t, e_divmod, e_all, e_isi, e_eq_ii, e_eq_ss, e_eq_bb, e_ne_ii, e_ne_ss, e_ne_bb, e_tru_n, e_tru_b, e_tru_i, e_tru_s, e_tru_r, e_truO_l, e_truO_t, e_sl_s, e_sl_r, e_slO, e_app, e_appO, e_rev, e_revO, e_tyX_l, e_tyXO_l, e_tyX_s, e_iO_l, e_iO_t, e_upd_same, e_upd_ne, ne_eq, not_false_eq_true, e_isN_n, e_isN_i, e_isN_b, e_isN_s, e_isN_r, e_non, e_tyN_i, e_tyN_b, e_tyN_s, e_tyN_n, e_tyN_r, e_tyO_l, e_tyO_t, e_tyO_d, e_box_turn, e_box_cells, e_box_put, List.map_cons, List.map_nil, List.length_cons, List.length_nil, List.replicate, List.append_nil, List.nil_append, List.cons_append, List.getElem?_cons_zero, List.getElem?_cons_succ, List.set_cons_zero, List.set_cons_succ, Nat.reduceAdd, Nat.reduceSub, ite_t, ite_f, decide_eq_true_eq, reduceIte, true_and, and_true, Bool.not_true, Bool.not_false, m_bool, m_int, m_str, m_list, m_tuple, m_dict, isTab, String.reduceBEq, Bool.and_false, Bool.and_true, Bool.or_false, Bool.false_or, Bool.or_true, Bool.true_or, Bool.false_and, Bool.true_and, decide_true, decide_false, Bool.false_eq_true, reduceCtorEq, e_isi_lt, tAug, e_for, e_forR1, e_forR2, e_forR3, e_sortS, e_addT_ii, e_addT_ss, e_addT_rr, e_catT_l, e_catT_t, e_addW_ii, e_addW_ss, e_addW_rr, e_catW_l, e_catW_t, e_forZ, e_lc, e_lcR1, e_lcR2, e_lcZ, tRv, e_rv, tM1, e_join, e_spl, e_cnt, e_cntO, e_idx, tRaise, tTry, e_forEs, e_mulY_ii, e_mulY_ri, e_mulY_si, tTryS, tTryN, xAsg, xExp, xIf, e_forEl, e_stw, e_maxY_ii, e_maxY_r, e_minY_ii, e_minY_r, e_anyY, e_sumY, tLR1, tLR2, tPar3, ex_three, e_lcEs, e_strY_i, e_listY_r, e_listY_s, e_pop, e_popO, e_popAt, e_ext, e_clr, e_clrO, e_isB, e_isNB, e_lenS, e_lenSO, e_sc, at_2, at_3, e_cntS, tAsg2, e_other, e_lcEl, e_ins, e_insO, tAugS, e_getL, tChain3, tChain4, e_gLst, e_gLstO, tRvY, e_rvY_s, e_rvY_r, e_stp, tOrW, e_forZ3, e_sameW, tDDef, tDNewT, e_forEz, e_inS, e_ninS, tCBK]
            cases n with
            | zero => exact hsm.elim
            | succ n =>
              simp only [L2.start, tSeq, tAsg, tRet, tIfS, tNext, tDrop, tPar, tVar, tC, tOp, tUn, tCall, tCB, tCons, tNil, tTup, tLst, tTest, tNot, tTru, tAnd, tOr, tIf, tAndV, tOrV, tNotX, tB, tSl, tPart, tNoPart, tBX, tBX0, tChain, gName, gCons, gNil, gSub, rI_ii, rI0_ii, rU_i, ex_bl, ex_int, ex_some, ex_two, ex_cons, ex_str, ex_v, nil_and, e_add_ii, e_add_ss, e_add_rr, e_cat, e_mul_ii, e_mul_ri, e_rep, e_ix_s, e_ix_r, e_ixO_l, e_ixO_t, at_0, at_1, e_setX, e_setO_l, e_gTup, e_gTupO, e_len_s, e_len_r, e_lenO_l, e_lenO_t, e_lenO_d, e_abs, e_max, e_min, e_int_i, e_int_b, e_int_s, e_listO_l, e_listO_t, e_divmod, e_all, e_isi, e_eq_ii, e_eq_ss, e_eq_bb, e_ne_ii, e_ne_ss, e_ne_bb, e_tru_n, e_tru_b, e_tru_i, e_tru_s, e_tru_r, e_truO_l, e_truO_t, e_sl_s, e_sl_r, e_slO, e_app, e_appO, e_rev, e_revO, e_tyX_l, e_tyXO_l, e_tyX_s, e_iO_l, e_iO_t, e_upd_same, e_upd_ne, ne_eq, not_false_eq_true, e_isN_n, e_isN_i, e_isN_b, e_isN_s, e_isN_r, e_non, e_tyN_i, e_tyN_b, e_tyN_s, e_tyN_n, e_tyN_r, e_tyO_l, e_tyO_t, e_tyO_d, e_box_turn, e_box_cells, e_box_put, List.map_cons, List.map_nil, List.length_cons, List.length_nil, List.replicate, List.append_nil, List.nil_append, List.cons_append, List.getElem?_cons_zero, List.getElem?_cons_succ, List.set_cons_zero, List.set_cons_succ, Nat.reduceAdd, Nat.reduceSub, ite_t, ite_f, decide_eq_true_eq, reduceIte, true_and, and_true, Bool.not_true, Bool.not_false, m_bool, m_int, m_str, m_list, m_tuple, m_dict, isTab, String.reduceBEq, Bool.and_false, Bool.and_true, Bool.or_false, Bool.false_or, Bool.or_true, Bool.true_or, Bool.false_and, Bool.true_and, decide_true, decide_false, Bool.false_eq_true, reduceCtorEq, e_isi_lt, tAug, e_for, e_forR1, e_forR2, e_forR3, e_sortS, e_addT_ii, e_addT_ss, e_addT_rr, e_catT_l, e_catT_t, e_addW_ii, e_addW_ss, e_addW_rr, e_catW_l, e_catW_t, e_forZ, e_lc, e_lcR1, e_lcR2, e_lcZ, tRv, e_rv, tM1, e_join, e_spl, e_cnt, e_cntO, e_idx, tRaise, tTry, e_forEs, e_mulY_ii, e_mulY_ri, e_mulY_si, tTryS, tTryN, xAsg, xExp, xIf, e_forEl, e_stw, e_maxY_ii, e_maxY_r, e_minY_ii, e_minY_r, e_anyY, e_sumY, tLR1, tLR2, tPar3, ex_three, e_lcEs, e_strY_i, e_listY_r, e_listY_s, e_pop, e_popO, e_popAt, e_ext, e_clr, e_clrO, e_isB, e_isNB, e_lenS, e_lenSO, e_sc, at_2, at_3, e_cntS, tAsg2, e_other, e_lcEl, e_ins, e_insO, tAugS, e_getL, tChain3, tChain4, e_gLst, e_gLstO, tRvY, e_rvY_s, e_rvY_r, e_stp, tOrW, e_forZ3, e_sameW, tDDef, tDNewT, e_forEz, e_inS, e_ninS, tCBK, e_same]
              refine ⟨hsm, hp'.upd rfl, _, by rw [upd_ne hDT]; exact hD', ?_, ?_⟩
              · have hi : i < xs.length := (List.getElem?_eq_some_iff.mp hx).1
                rw [List.length_map, List.length_replicate]
                exact Nat.lt_of_lt_of_le (Nat.lt_of_lt_of_le hi hz) (by decide)
              · rw [rep_snoc]
                exact ⟨rfl, k2.upd (.inr hD), (hp'.upd rfl).upd rfl⟩
          · rintro D H' hD ⟨hD', hk', hp'⟩
            exact ⟨List.replicate _ true, hD', by rw [bl_all]; exact fin hp' (k1.trans hk')⟩
theorem ok_l_lowest (F : Fn K mg "_law_lowest" s_l_lowest p_l_lowest) (T : Bl mg) : Cal P w K mg base "_law_lowest" 1 p_l_lowest spLow := by
  refine F.cal (k := 0) sc_l_lowest (fun vs H Q E h => ?_) (fun f cdv A outer s H vs Q E hr h => ?_)
  · unfold spLow at h; split at h <;> first | rfl | exact h.elim
  · unfold spLow at h
    split at h
    · rename_i t b
      obtain ⟨hb, hbb, htb, h⟩ := h
      have hu := hu_of hr
      have hu64 := hr.units
      refine ⟨_, (@pss_cons _ _ _ _ _ (@ps_par _ _ (2) (3) _ _ _ _ _ _ _ _ _ _ _ (by rfl) sc_l_lowest.nd rfl rfl (by decide) rfl rfl (@pa_cons _ _ _ _ _ (@pe_callB _ _ _ _ _ _ _ _ _ call_absX (by rfl) T.b_abs bt_abs (@pa_cons _ _ _ _ _ (@pv _ 0 _ _ (by rfl) (by first  | exact Or.inl rfl  | exact Or.inr (Or.inl rfl)  | exact Or.inr (Or.inr rfl)) (by decide) (by decide)) pa_nil (by rfl)) (by decide) (by decide) (by rfl) (by rfl)) (@pa_cons _ _ _ _ _ (@pv _ 1 _ _ (by rfl) (by first  | exact Or.inl rfl  | exact Or.inr (Or.inl rfl)  | exact Or.inr (Or.inr rfl)) (by decide) (by decide)) pa_nil (by rfl)) (by rfl)) (by rfl) (by rfl)) (@pss_cons _ _ _ _ _ (@ps_while _ _ _ _ _ _ PassesOwn.never (@pt_cmpR _ _ _ _ _ _ _ _ op_gt (@pv _ 3 _ _ (by rfl) (by first  | exact Or.inl rfl  | exact Or.inr (Or.inl rfl)  | exact Or.inr (Or.inr rfl)) (by decide) (by decide)) pe_int (nomark _)) (@pss_one _ _ _ (@ps_par _ _ (2) (3) _ _ _ _ _ _ _ _ _ _ _ (by rfl) sc_l_lowest.nd rfl rfl (by decide) rfl rfl (@pa_cons _ _ _ _ _ (@pv _ 3 _ _ (by rfl) (by first  | exact Or.inl rfl  | exact Or.inr (Or.inl rfl)  | exact Or.inr (Or.inr rfl)) (by decide) (by decide)) (@pa_cons _ _ _ _ _ (@pe_op _ _ _ _ _ _ _ _ op_modN (@pv _ 2 _ _ (by rfl) (by first  | exact Or.inl rfl  | exact Or.inr (Or.inl rfl)  | exact Or.inr (Or.inr rfl)) (by decide) (by decide)) (@pv _ 3 _ _ (by rfl) (by first  | exact Or.inl rfl  | exact Or.inr (Or.inl rfl)  | exact Or.inr (Or.inr rfl)) (by decide) (by decide))) pa_nil (by rfl)) (by rfl)) (by rfl) (by rfl)))) (@pss_one _ _ _ (@ps_ret _ _ _ _ (@pe_tup _ _ _ _ _ (@pa_cons _ _ _ _ _ (@pe_op _ _ _ _ _ _ _ _ op_fdivL (@pv _ 0 _ _ (by rfl) (by first  | exact Or.inl rfl  | exact Or.inr (Or.inl rfl)  | exact Or.inr (Or.inr rfl)) (by decide) (by decide)) (@pv _ 2 _ _ (by rfl) (by first  | exact Or.inl rfl  | exact Or.inr (Or.inl rfl)  | exact Or.inr (Or.inr rfl)) (by decide) (by decide))) (@pa_cons _ _ _ _ _ (@pe_op _ _ _ _ _ _ _ _ op_fdivL (@pv _ 1 _ _ (by rfl) (by first  | exact Or.inl rfl  | exact Or.inr (Or.inl rfl)  | exact Or.inr (Or.inr rfl)) (by decide) (by decide)) (@pv _ 2 _ _ (by rfl) (by first  | exact Or.inl rfl  | exact Or.inr (Or.inl rfl)  | exact Or.inr (Or.inr rfl)) (by decide) (by decide))) pa_nil (by rfl)) (by rfl))))))), ?_⟩
      walk_at "rd"
      refine ⟨fun m σ H' => ∃ x y : Int, m = y.natAbs ∧ σ = [some (.int t), some (.int b), some (.int x), some (.int y)] ∧ H' = H ∧ Int.gcd x y = Int.gcd t b ∧ 0 ≤ x ∧ 0 ≤ y, ⟨_, t.natAbs, b, rfl, rfl, rfl, rfl, by omega, by omega⟩, ?_⟩
      rintro m σ H' ⟨x, y, rfl, rfl, rfl, hg, hx, hy⟩
      walk_at "rd"
      split
      · rename_i h0
        refine ⟨fun σ' H2 => σ' = [some (.int t), some (.int b), some (.int y), some (.int (x.fmod y))] ∧ H2 = H', ?_, ?_⟩
        · rintro σ' H2 ⟨rfl, rfl⟩
          exact ⟨_, fmod_lt x (by omega), y, x.fmod y, rfl, rfl, rfl, by rw [gcd_fmod, hg], hy, Int.fmod_nonneg_of_pos x h0⟩
        · exact ⟨by omega, rfl, rfl⟩
      · rename_i h0
        have : y = 0 := by omega
        subst this
        have e : x = (Int.gcd t b : Int) := by rw [← hg, Int.gcd_zero]; omega
        have hne : (b : Int) ≠ 0 := by omega
        have eG : x = ptG t b := by unfold ptG; rw [if_neg (by omega)]; exact e
        obtain ⟨q, r, e1, e2, e3, e4, hr1, hg1⟩ := part_q t b hne
        have hxs := ptG_ne (t := t) hne
        have hxm := ptG_small (t := t) hne (small_bits (by omega))
        walk_at "rd"
        rw [eG]
        refine ⟨⟨hxs, hxm⟩, ⟨hxs, hxm⟩, by decide, fun q hq => told_id (h q _ _ hq ⟨?_, ?_, ?_⟩ (M.bits_fdiv (Nat.le_refl _)) (M.bits_fdiv (Nat.le_refl _)))⟩
        · rw [e4]; exact hr1
        · rw [e3, e4]; exact hg1
        · rw [e3, e4]
          conv => lhs; rw [e2]
          conv => rhs; rw [e1]
          grind
    · exact h.elim
theorem ok_l_share (F : Fn K mg "_law_share" s_l_share p_l_share) (T : Bl mg) (c_l_take : Cal P w K mg base "_law_take" 1 p_l_take spTake) (c_l_lowest : Cal P w K mg base "_law_lowest" 1 p_l_lowest spLow) : Cal P w K mg base "_law_share" 2 p_l_share spShare59 := by
  refine F.cal (k := 1) sc_l_share (fun vs H Q E h => ?_) (fun f cdv A outer s H vs Q E hr h => ?_)
  · unfold spShare59 at h; split at h <;> first | rfl | exact h.elim
  · unfold spShare59 at h
    split at h
    · rename_i b most
      obtain ⟨c, T0, hbx, hpl, hT, hm1, hm2, h⟩ := h
      have hu := hu_of hr
      have hu64 := hr.units
      refine ⟨_, (@pss_cons _ _ _ _ _ (@ps_set _ _ (2) _ _ _ _ sc_l_share.nd rfl (by first | exact Or.inl rfl | exact Or.inr rfl) (@pe_cal _ _ _ _ _ _ _ _ _ _ c_l_take (hr.mono (by first | decide | omega)) (by rfl) (@pa_cons _ _ _ _ _ (@pv _ 0 _ _ (by rfl) (by first  | exact Or.inl rfl  | exact Or.inr (Or.inl rfl)  | exact Or.inr (Or.inr rfl)) (by decide) (by decide)) (@pa_cons _ _ _ _ _ pe_int pa_nil (by rfl)) (by rfl)) (by decide) (by rfl) (by rfl)) (by rfl) (by first  | exact .inl rfl  | exact .inr rfl  | assumption)) (@pss_cons _ _ _ _ _ (@ps_set _ _ (3) _ _ _ _ sc_l_share.nd rfl (by first | exact Or.inl rfl | exact Or.inr rfl) (@pe_op _ _ _ _ _ _ _ _ op_addX pe_int (@pe_cal _ _ _ _ _ _ _ _ _ _ c_l_take (hr.mono (by first | decide | omega)) (by rfl) (@pa_cons _ _ _ _ _ (@pv _ 0 _ _ (by rfl) (by first  | exact Or.inl rfl  | exact Or.inr (Or.inl rfl)  | exact Or.inr (Or.inr rfl)) (by decide) (by decide)) (@pa_cons _ _ _ _ _ (@pe_ixX _ _ _ _ _ _ hu (@pe_lst _ _ _ _ (@pa_cons _ _ _ _ _ pe_int (@pa_cons _ _ _ _ _ pe_int (@pa_cons _ _ _ _ _ pe_int (@pa_cons _ _ _ _ _ (@pv _ 1 _ _ (by rfl) (by first  | exact Or.inl rfl  | exact Or.inr (Or.inl rfl)  | exact Or.inr (Or.inr rfl)) (by decide) (by decide)) pa_nil (by rfl)) (by rfl)) (by rfl)) (by rfl))) (@pe_cal _ _ _ _ _ _ _ _ _ _ c_l_take (hr.mono (by first | decide | omega)) (by rfl) (@pa_cons _ _ _ _ _ (@pv _ 0 _ _ (by rfl) (by first  | exact Or.inl rfl  | exact Or.inr (Or.inl rfl)  | exact Or.inr (Or.inr rfl)) (by decide) (by decide)) (@pa_cons _ _ _ _ _ pe_int pa_nil (by rfl)) (by rfl)) (by decide) (by rfl) (by rfl)) (fun _ _ => rfl)) pa_nil (by rfl)) (by rfl)) (by decide) (by rfl) (by rfl))) (by rfl) (by first  | exact .inl rfl  | exact .inr rfl  | assumption)) (@pss_cons _ _ _ _ _ (@ps_set _ _ (4) _ _ _ _ sc_l_share.nd rfl (by first | exact Or.inl rfl | exact Or.inr rfl) (@pe_cal _ _ _ _ _ _ _ _ _ _ c_l_take (hr.mono (by first | decide | omega)) (by rfl) (@pa_cons _ _ _ _ _ (@pv _ 0 _ _ (by rfl) (by first  | exact Or.inl rfl  | exact Or.inr (Or.inl rfl)  | exact Or.inr (Or.inr rfl)) (by decide) (by decide)) (@pa_cons _ _ _ _ _ (@pe_op _ _ _ _ _ _ _ _ op_addX (@pv _ 3 _ _ (by rfl) (by first  | exact Or.inl rfl  | exact Or.inr (Or.inl rfl)  | exact Or.inr (Or.inr rfl)) (by decide) (by decide)) pe_int) pa_nil (by rfl)) (by rfl)) (by decide) (by rfl) (by rfl)) (by rfl) (by first  | exact .inl rfl  | exact .inr rfl  | assumption)) (@pss_consC _ _ _ _ _ (@ps_if _ _ _ _ _ _ _ _ (@pt_cmpR _ _ _ _ _ _ _ _ (op_eqK (K := K) rfl hu64) (@pv _ 2 _ _ (by rfl) (by first  | exact Or.inl rfl  | exact Or.inr (Or.inl rfl)  | exact Or.inr (Or.inr rfl)) (by decide) (by decide)) pe_int (nomark _)) (@pss_one _ _ _ (@ps_set _ _ (4) _ _ _ _ sc_l_share.nd rfl (by first | exact Or.inl rfl | exact Or.inr rfl) pe_int (by rfl) (by first  | exact .inl rfl  | exact .inr rfl  | assumption))) pss_nil) (@pss_consC _ _ _ _ _ (@ps_if _ _ _ _ _ _ _ _ (@pt_cmpR _ _ _ _ _ _ _ _ (op_eqK (K := K) rfl hu64) (@pv _ 2 _ _ (by rfl) (by first  | exact Or.inl rfl  | exact Or.inr (Or.inl rfl)  | exact Or.inr (Or.inr rfl)) (by decide) (by decide)) pe_int (nomark _)) (@pss_one _ _ _ (@ps_set _ _ (4) _ _ _ _ sc_l_share.nd rfl (by first | exact Or.inl rfl | exact Or.inr rfl) (@pe_op _ _ _ _ _ _ _ _ op_sub (@pv _ 3 _ _ (by rfl) (by first  | exact Or.inl rfl  | exact Or.inr (Or.inl rfl)  | exact Or.inr (Or.inr rfl)) (by decide) (by decide)) pe_int) (by rfl) (by first  | exact .inl rfl  | exact .inr rfl  | assumption))) pss_nil) (@pss_one _ _ _ (@ps_ret _ _ _ _ (@pe_cal _ _ _ _ _ _ _ _ _ _ c_l_lowest (hr.mono (by first | decide | omega)) (by rfl) (@pa_cons _ _ _ _ _ (@pv _ 4 _ _ (by rfl) (by first  | exact Or.inl rfl  | exact Or.inr (Or.inl rfl)  | exact Or.inr (Or.inr rfl)) (by decide) (by decide)) (@pa_cons _ _ _ _ _ (@pv _ 3 _ _ (by rfl) (by first  | exact Or.inl rfl  | exact Or.inr (Or.inl rfl)  | exact Or.inr (Or.inr rfl)) (by decide) (by decide)) pa_nil (by rfl)) (by rfl)) (by decide) (by rfl) (by rfl))))))))), ?_⟩
      walk_at "rd"
      refine take_ok hbx hpl (by decide) (sm_of (by decide) (by decide)) (by omega) fun way H1 a1 b1 x1 c1 p1 => ?_
      refine ⟨by decide, fun q hq => ?_⟩
      have nqb : q ≠ b := fun e => x1.hb (e ▸ hq)
      have nqc : q ≠ c := fun e => x1.hc (e ▸ hq)
      refine take_ok (x1.new hq) (p1.upd rfl) (by decide) (sm_of (by decide) (by decide)) (by omega) fun d H2 a2 b2 x2 c2 p2 => ?_
      have gq : H2 q = _ := chg_keep c2 upd_same nqb nqc
      obtain ⟨mo, hmo1, hmo2, hat⟩ : ∃ mo : Int, 1 ≤ mo ∧ mo ≤ most ∧ atI [V.int 4, V.int 9, V.int 9, V.int most] d = some (.int mo) := by
        have hd : d = 0 ∨ d = 1 ∨ d = 2 ∨ d = 3 := by omega
        rcases hd with rfl | rfl | rfl | rfl
        · exact ⟨4, by omega, by omega, rfl⟩
        · exact ⟨9, by omega, by omega, rfl⟩
        · exact ⟨9, by omega, by omega, rfl⟩
        · exact ⟨most, by omega, by omega, rfl⟩
      simp only [L2.start, tSeq, tAsg, tRet, tIfS, tNext, tDrop, tPar, tVar, tC, tOp, tUn, tCall, tCB, tCons, tNil, tTup, tLst, tTest, tNot, tTru, tAnd, tOr, tIf, tAndV, tOrV, tNotX, tB, tSl, tPart, tNoPart, tBX, tBX0, tChain, gName, gCons, gNil, gSub, rI_ii, rI0_ii, rU_i, ex_bl, ex_int, ex_some, ex_two, ex_cons, ex_str, ex_v, nil_and, e_add_ii, e_add_ss, e_add_rr, e_cat, e_mul_ii, e_mul_ri, e_rep, e_ix_s, e_ix_r, e_ixO_l, e_ixO_t, at_0, at_1, e_setX, e_setO_l, e_gTup, e_gTupO, e_len_s, e_len_r, e_lenO_l, e_lenO_t, e_lenO_d, e_abs, e_max, e_min, e_int_i, e_int_b, e_int_s, e_listO_l, e_listO_t, e_divmod, e_all, e_isi, e_eq_ii, e_eq_ss, e_eq_bb, e_ne_ii, e_ne_ss, e_ne_bb, e_tru_n, e_tru_b, e_tru_i, e_tru_s, e_tru_r, e_truO_l, e_truO_t, e_sl_s, e_sl_r, e_slO, e_app, e_appO, e_rev, e_revO, e_tyX_l, e_tyXO_l, e_tyX_s, e_iO_l, e_iO_t, e_upd_same, e_upd_ne, ne_eq, not_false_eq_true, e_isN_n, e_isN_i, e_isN_b, e_isN_s, e_isN_r, e_non, e_tyN_i, e_tyN_b, e_tyN_s, e_tyN_n, e_tyN_r, e_tyO_l, e_tyO_t, e_tyO_d, e_box_turn, e_box_cells, e_box_put, List.map_cons, List.map_nil, List.length_cons, List.length_nil, List.replicate, List.append_nil, List.nil_append, List.cons_append, List.getElem?_cons_zero, List.getElem?_cons_succ, List.set_cons_zero, List.set_cons_succ, Nat.reduceAdd, Nat.reduceSub, ite_t, ite_f, decide_eq_true_eq, reduceIte, true_and, and_true, Bool.not_true, Bool.not_false, m_bool, m_int, m_str, m_list, m_tuple, m_dict, isTab, String.reduceBEq, Bool.and_false, Bool.and_true, Bool.or_false, Bool.false_or, Bool.or_true, Bool.true_or, Bool.false_and, Bool.true_and, decide_true, decide_false, Bool.false_eq_true, reduceCtorEq, e_isi_lt, tAug, e_for, e_forR1, e_forR2, e_forR3, e_sortS, e_addT_ii, e_addT_ss, e_addT_rr, e_catT_l, e_catT_t, e_addW_ii, e_addW_ss, e_addW_rr, e_catW_l, e_catW_t, e_forZ, e_lc, e_lcR1, e_lcR2, e_lcZ, tRv, e_rv, tM1, e_join, e_spl, e_cnt, e_cntO, e_idx, tRaise, tTry, e_forEs, e_mulY_ii, e_mulY_ri, e_mulY_si, tTryS, tTryN, xAsg, xExp, xIf, e_forEl, e_stw, e_maxY_ii, e_maxY_r, e_minY_ii, e_minY_r, e_anyY, e_sumY, tLR1, tLR2, tPar3, ex_three, e_lcEs, e_strY_i, e_listY_r, e_listY_s, e_pop, e_popO, e_popAt, e_ext, e_clr, e_clrO, e_isB, e_isNB, e_lenS, e_lenSO, e_sc, at_2, at_3, e_cntS, tAsg2, e_other, e_lcEl, e_ins, e_insO, tAugS, e_getL, tChain3, tChain4, e_gLst, e_gLstO, tRvY, e_rvY_s, e_rvY_r, e_stp, tOrW, e_forZ3, e_sameW, tDDef, tDNewT, e_forEz, e_inS, e_ninS, tCBK, gq, hat]
      refine take_ok x2 p2 (by omega) (sm_of (by omega) (by omega)) (by omega) fun d3 H3 a3 b3 x3 c3 p3 => ?_
      simp only [L2.start, tSeq, tAsg, tRet, tIfS, tNext, tDrop, tPar, tVar, tC, tOp, tUn, tCall, tCB, tCons, tNil, tTup, tLst, tTest, tNot, tTru, tAnd, tOr, tIf, tAndV, tOrV, tNotX, tB, tSl, tPart, tNoPart, tBX, tBX0, tChain, gName, gCons, gNil, gSub, rI_ii, rI0_ii, rU_i, ex_bl, ex_int, ex_some, ex_two, ex_cons, ex_str, ex_v, nil_and, e_add_ii, e_add_ss, e_add_rr, e_cat, e_mul_ii, e_mul_ri, e_rep, e_ix_s, e_ix_r, e_ixO_l, e_ixO_t, at_0, at_1, e_setX, e_setO_l, e_gTup, e_gTupO, e_len_s, e_len_r, e_lenO_l, e_lenO_t, e_lenO_d, e_abs, e_max, e_min, e_int_i, e_int_b, e_int_s, e_listO_l, e_listO_t, e_divmod, e_all, e_isi, e_eq_ii, e_eq_ss, e_eq_bb, e_ne_ii, e_ne_ss, e_ne_bb, e_tru_n, e_tru_b, e_tru_i, e_tru_s, e_tru_r, e_truO_l, e_truO_t, e_sl_s, e_sl_r, e_slO, e_app, e_appO, e_rev, e_revO, e_tyX_l, e_tyXO_l, e_tyX_s, e_iO_l, e_iO_t, e_upd_same, e_upd_ne, ne_eq, not_false_eq_true, e_isN_n, e_isN_i, e_isN_b, e_isN_s, e_isN_r, e_non, e_tyN_i, e_tyN_b, e_tyN_s, e_tyN_n, e_tyN_r, e_tyO_l, e_tyO_t, e_tyO_d, e_box_turn, e_box_cells, e_box_put, List.map_cons, List.map_nil, List.length_cons, List.length_nil, List.replicate, List.append_nil, List.nil_append, List.cons_append, List.getElem?_cons_zero, List.getElem?_cons_succ, List.set_cons_zero, List.set_cons_succ, Nat.reduceAdd, Nat.reduceSub, ite_t, ite_f, decide_eq_true_eq, reduceIte, true_and, and_true, Bool.not_true, Bool.not_false, m_bool, m_int, m_str, m_list, m_tuple, m_dict, isTab, String.reduceBEq, Bool.and_false, Bool.and_true, Bool.or_false, Bool.false_or, Bool.or_true, Bool.true_or, Bool.false_and, Bool.true_and, decide_true, decide_false, Bool.false_eq_true, reduceCtorEq, e_isi_lt, tAug, e_for, e_forR1, e_forR2, e_forR3, e_sortS, e_addT_ii, e_addT_ss, e_addT_rr, e_catT_l, e_catT_t, e_addW_ii, e_addW_ss, e_addW_rr, e_catW_l, e_catW_t, e_forZ, e_lc, e_lcR1, e_lcR2, e_lcZ, tRv, e_rv, tM1, e_join, e_spl, e_cnt, e_cntO, e_idx, tRaise, tTry, e_forEs, e_mulY_ii, e_mulY_ri, e_mulY_si, tTryS, tTryN, xAsg, xExp, xIf, e_forEl, e_stw, e_maxY_ii, e_maxY_r, e_minY_ii, e_minY_r, e_anyY, e_sumY, tLR1, tLR2, tPar3, ex_three, e_lcEs, e_strY_i, e_listY_r, e_listY_s, e_pop, e_popO, e_popAt, e_ext, e_clr, e_clrO, e_isB, e_isNB, e_lenS, e_lenSO, e_sc, at_2, at_3, e_cntS, tAsg2, e_other, e_lcEl, e_ins, e_insO, tAugS, e_getL, tChain3, tChain4, e_gLst, e_gLstO, tRvY, e_rvY_s, e_rvY_r, e_stp, tOrW, e_forZ3, e_sameW, tDDef, tDNewT, e_forEz, e_inS, e_ninS, tCBK]
      refine take_ok x3 p3 (by omega) (sm_of (by omega) (by omega)) (by omega) fun d4 H4 a4 b4 x4 c4 p4 => ?_
      have k4 : Kp [b, c] H H4 := (((((Kp.refl _ _).chg c1 (by simp)).new hq).chg c2 (by simp)).chg c3 (by simp)).chg c4 (by simp)
      obtain ⟨below, hbe⟩ : ∃ below : Int, below = 1 + d3 := ⟨_, rfl⟩
      rw [← hbe]
      refine e_cut (fun σ' H' => H' = H4 ∧ ∃ top, σ' = [some (.ref b), some (.int most), some (.int way), some (.int below), some (.int top)] ∧ 0 ≤ top ∧ top ≤ below) ?_ ?_
      · walk_at "rd"
        split
        · exact ⟨1, rfl, by omega, by omega⟩
        · exact ⟨d4, rfl, a4, by omega⟩
      rintro σ H' ⟨rfl, top, rfl, ht1, ht2⟩
      refine e_cut (fun σ' H2 => H2 = H' ∧ ∃ top, σ' = [some (.ref b), some (.int most), some (.int way), some (.int below), some (.int top)] ∧ 0 ≤ top ∧ top ≤ below) ?_ ?_
      · walk_at "rd"
        split
        · exact ⟨below - 1, rfl, by omega, by omega⟩
        · exact ⟨top, rfl, ht1, ht2⟩
      clear ht1 ht2
      rintro σ H'' ⟨rfl, top, rfl, ht1, ht2⟩
      walk_at "rd"
      refine low_ok (by omega) (bits_mono (bits_64 (by omega) (by omega)) (by decide)) (bits_mono (bits_64 (by omega) (by omega)) (by decide)) fun r t' b' hr' hR m1 m2 => ?_
      have nrb : r ≠ b := fun e => x4.hb (e ▸ hr')
      have nrc : r ≠ c := fun e => x4.hc (e ▸ hr')
      have hrH : H r = none := k4.none hr' (by simp [nrb, nrc])
      have hsh := red_share hR ht1 ht2 (by omega)
      refine told [b, c] [r] (p4.upd rfl) (k4.new hr') fun H5 hch hke hp5 => h r t' b' H5 hrH ((hke r (by simp)).trans upd_same) hsh.1 hsh.2 hR.pos (Int.le_trans (red_le hR (by omega)) (by omega)) ((x4.new (o := .tup [.int t', .int b']) hr').mono (by omega) |>.of (hke b (by simp)) (hke c (by simp))) (by simpa using hch) hp5
    · exact h.elim
theorem ok_l_steady (F : Fn K mg "_law_steady" s_l_steady p_l_steady) (T : Bl mg) : Cal P w K mg base "_law_steady" 1 p_l_steady spLSt := by
  refine F.cal (k := 0) sc_l_steady (fun vs H Q E h => ?_) (fun f cdv A outer s H vs Q E hr h => ?_)
  · unfold spLSt at h; split at h <;> first | rfl | exact h.elim
  · unfold spLSt at h
    split at h
    · rename_i sh st n
      obtain ⟨t, u, hs, hn0, hn8, hu1, hu2, h⟩ := h
      have hu := hu_of hr
      have hu64 := hr.units
      refine ⟨_, (@pss_cons _ _ _ _ _ (@ps_set _ _ (3) _ _ _ _ sc_l_steady.nd rfl (by first | exact Or.inl rfl | exact Or.inr rfl) pe_str (by rfl) (by first  | exact .inl rfl  | exact .inr rfl  | assumption)) (@pss_cons _ _ _ _ _ (@ps_set _ _ (4) _ _ _ _ sc_l_steady.nd rfl (by first | exact Or.inl rfl | exact Or.inr rfl) (@pv _ 1 _ _ (by rfl) (by first  | exact Or.inl rfl  | exact Or.inr (Or.inl rfl)  | exact Or.inr (Or.inr rfl)) (by decide) (by decide)) (by rfl) (by first  | exact .inl rfl  | exact .inr rfl  | assumption)) (@pss_cons _ _ _ _ _ (@ps_for _ _ _ _ _ _ _ _ PassesOwn.never rfl (@pi_range1 _ _ _ _ _ _ (by rfl) T.b_range (@pa_cons _ _ _ _ _ (@pv _ 2 _ _ (by rfl) (by first  | exact Or.inl rfl  | exact Or.inr (Or.inl rfl)  | exact Or.inr (Or.inr rfl)) (by decide) (by decide)) pa_nil (by rfl)) (by rfl)) (@pg_name _ _ (5) _ sc_l_steady.nd rfl (by first | exact Or.inl rfl | exact Or.inr rfl) (by first  | exact .inl rfl  | exact .inr rfl  | assumption)) (@pss_cons _ _ _ _ _ (@ps_set _ _ (4) _ _ _ _ sc_l_steady.nd rfl (by first | exact Or.inl rfl | exact Or.inr rfl) (@pe_op _ _ _ _ _ _ _ _ op_addX (@pv _ 4 _ _ (by rfl) (by first  | exact Or.inl rfl  | exact Or.inr (Or.inl rfl)  | exact Or.inr (Or.inr rfl)) (by decide) (by decide)) (@pe_ixX _ _ _ _ _ _ hu (@pv _ 0 _ _ (by rfl) (by first  | exact Or.inl rfl  | exact Or.inr (Or.inl rfl)  | exact Or.inr (Or.inr rfl)) (by decide) (by decide)) pe_int (fun _ _ => rfl))) (by rfl) (by first  | exact .inl rfl  | exact .inr rfl  | assumption)) (@pss_cons _ _ _ _ _ (@ps_set _ _ (3) _ _ _ _ sc_l_steady.nd rfl (by first | exact Or.inl rfl | exact Or.inr rfl) (@pe_op _ _ _ _ _ _ _ _ op_addX (@pv _ 3 _ _ (by rfl) (by first  | exact Or.inl rfl  | exact Or.inr (Or.inl rfl)  | exact Or.inr (Or.inr rfl)) (by decide) (by decide)) (@pe_ixX _ _ _ _ _ _ hu pe_str (@pe_callTy _ _ _ _ _ _ _ _ _ call_intX (by rfl) T.b_int bt_int (@pa_cons _ _ _ _ _ (@pe_cmpR _ _ _ _ _ _ _ _ op_ge (@pv _ 4 _ _ (by rfl) (by first  | exact Or.inl rfl  | exact Or.inr (Or.inl rfl)  | exact Or.inr (Or.inr rfl)) (by decide) (by decide)) (@pe_ixX _ _ _ _ _ _ hu (@pv _ 0 _ _ (by rfl) (by first  | exact Or.inl rfl  | exact Or.inr (Or.inl rfl)  | exact Or.inr (Or.inr rfl)) (by decide) (by decide)) pe_int (fun _ _ => rfl)) (nomark _)) pa_nil (by rfl)) (by decide) (by decide) (by rfl) (by rfl)) (fun _ _ => rfl))) (by rfl) (by first  | exact .inl rfl  | exact .inr rfl  | assumption)) (@pss_one _ _ _ (@ps_set _ _ (4) _ _ _ _ sc_l_steady.nd rfl (by first | exact Or.inl rfl | exact Or.inr rfl) (@pe_op _ _ _ _ _ _ _ _ op_sub (@pv _ 4 _ _ (by rfl) (by first  | exact Or.inl rfl  | exact Or.inr (Or.inl rfl)  | exact Or.inr (Or.inr rfl)) (by decide) (by decide)) (@pe_op _ _ _ _ _ _ _ _ op_mulY (@pe_ixX _ _ _ _ _ _ hu (@pv _ 0 _ _ (by rfl) (by first  | exact Or.inl rfl  | exact Or.inr (Or.inl rfl)  | exact Or.inr (Or.inr rfl)) (by decide) (by decide)) pe_int (fun _ _ => rfl)) (@pe_callTy _ _ _ _ _ _ _ _ _ call_intX (by rfl) T.b_int bt_int (@pa_cons _ _ _ _ _ (@pe_cmpR _ _ _ _ _ _ _ _ op_ge (@pv _ 4 _ _ (by rfl) (by first  | exact Or.inl rfl  | exact Or.inr (Or.inl rfl)  | exact Or.inr (Or.inr rfl)) (by decide) (by decide)) (@pe_ixX _ _ _ _ _ _ hu (@pv _ 0 _ _ (by rfl) (by first  | exact Or.inl rfl  | exact Or.inr (Or.inl rfl)  | exact Or.inr (Or.inr rfl)) (by decide) (by decide)) pe_int (fun _ _ => rfl)) (nomark _)) pa_nil (by rfl)) (by decide) (by decide) (by rfl) (by rfl)))) (by rfl) (by first  | exact .inl rfl  | exact .inr rfl  | assumption))))) (by intro _; rfl)) (@pss_one _ _ _ (@ps_ret _ _ _ _ (@pv _ 3 _ _ (by rfl) (by first  | exact Or.inl rfl  | exact Or.inr (Or.inl rfl)  | exact Or.inr (Or.inr rfl)) (by decide) (by decide))))))), ?_⟩
      walk_at "rd"
      have h01 := bits01 u
      refine forR_ok (by omega) (by omega) (fun i σ H' => ∃ s5, σ = [some (.ref sh), some (.int st), some (.int n), some (.str (rowS (bitsE u st (List.replicate i t)))), some (.int (lastE u st (List.replicate i t))), s5] ∧ H' = H) ⟨_, by rw [show List.replicate 0 t = [] from rfl, bitsE, rowS_nil]; rfl, rfl⟩ ?_ ?_
      · rintro i σ H1 hi ⟨s5, rfl, rfl⟩
        have hrl := rowS_len _ (bitsE u st (List.replicate i t)) rfl (h01 _ _)
        rw [bitsE_len, List.length_replicate] at hrl
        obtain ⟨rp, hrp⟩ : ∃ rp, rp = List.replicate i t := ⟨_, rfl⟩
        have hsn : List.replicate (i + 1) t = rp ++ [t] := by rw [List.replicate_succ', hrp]
        rw [hsn, bitsE_snoc, lastE_snoc, rowS_snoc]
        rw [← hrp] at hrl ⊢
        simp only [L2.start, tSeq, tAsg, tRet, tIfS, tNext, tDrop, tPar, tVar, tC, tOp, tUn, tCall, tCB, tCons, tNil, tTup, tLst, tTest, tNot, tTru, tAnd, tOr, tIf, tAndV, tOrV, tNotX, tB, tSl, tPart, tNoPart, tBX, tBX0, tChain, gName, gCons, gNil, gSub, rI_ii, rI0_ii, rU_i, ex_bl, ex_int, ex_some, ex_two, ex_cons, ex_str, ex_v, nil_and, e_add_ii, e_add_ss, e_add_rr, e_cat, e_mul_ii, e_mul_ri, e_rep, e_ix_s, e_ix_r, e_ixO_l, e_ixO_t, at_0, at_1, e_setX, e_setO_l, e_gTup, e_gTupO, e_len_s, e_len_r, e_lenO_l, e_lenO_t, e_lenO_d, e_abs, e_max, e_min, e_int_i, e_int_b, e_int_s, e_listO_l, e_listO_t, e_divmod, e_all, e_isi, e_eq_ii, e_eq_ss, e_eq_bb, e_ne_ii, e_ne_ss, e_ne_bb, e_tru_n, e_tru_b, e_tru_i, e_tru_s, e_tru_r, e_truO_l, e_truO_t, e_sl_s, e_sl_r, e_slO, e_app, e_appO, e_rev, e_revO, e_tyX_l, e_tyXO_l, e_tyX_s, e_iO_l, e_iO_t, e_upd_same, e_upd_ne, ne_eq, not_false_eq_true, e_isN_n, e_isN_i, e_isN_b, e_isN_s, e_isN_r, e_non, e_tyN_i, e_tyN_b, e_tyN_s, e_tyN_n, e_tyN_r, e_tyO_l, e_tyO_t, e_tyO_d, e_box_turn, e_box_cells, e_box_put, List.map_cons, List.map_nil, List.length_cons, List.length_nil, List.replicate, List.append_nil, List.nil_append, List.cons_append, List.getElem?_cons_zero, List.getElem?_cons_succ, List.set_cons_zero, List.set_cons_succ, Nat.reduceAdd, Nat.reduceSub, ite_t, ite_f, decide_eq_true_eq, reduceIte, true_and, and_true, Bool.not_true, Bool.not_false, m_bool, m_int, m_str, m_list, m_tuple, m_dict, isTab, String.reduceBEq, Bool.and_false, Bool.and_true, Bool.or_false, Bool.false_or, Bool.or_true, Bool.true_or, Bool.false_and, Bool.true_and, decide_true, decide_false, Bool.false_eq_true, reduceCtorEq, e_isi_lt, tAug, e_for, e_forR1, e_forR2, e_forR3, e_sortS, e_addT_ii, e_addT_ss, e_addT_rr, e_catT_l, e_catT_t, e_addW_ii, e_addW_ss, e_addW_rr, e_catW_l, e_catW_t, e_forZ, e_lc, e_lcR1, e_lcR2, e_lcZ, tRv, e_rv, tM1, e_join, e_spl, e_cnt, e_cntO, e_idx, tRaise, tTry, e_forEs, e_mulY_ii, e_mulY_ri, e_mulY_si, tTryS, tTryN, xAsg, xExp, xIf, e_forEl, e_stw, e_maxY_ii, e_maxY_r, e_minY_ii, e_minY_r, e_anyY, e_sumY, tLR1, tLR2, tPar3, ex_three, e_lcEs, e_strY_i, e_listY_r, e_listY_s, e_pop, e_popO, e_popAt, e_ext, e_clr, e_clrO, e_isB, e_isNB, e_lenS, e_lenSO, e_sc, at_2, at_3, e_cntS, tAsg2, e_other, e_lcEl, e_ins, e_insO, tAugS, e_getL, tChain3, tChain4, e_gLst, e_gLstO, tRvY, e_rvY_s, e_rvY_r, e_stp, tOrW, e_forZ3, e_sameW, tDDef, tDNewT, e_forEz, e_inS, e_ninS, tCBK, hs]
        have hle : (rowS (bitsE u st rp)).length + 1 ≤ sizeLine := Nat.le_trans (show _ ≤ 1000 by omega) (by decide)
        by_cases hb : u ≤ lastE u st rp + t
        · have e1 : stB u (lastE u st rp) t = 1 := by unfold stB; rw [if_pos hb]
          have e2 : stE u (lastE u st rp) t = lastE u st rp + t - u := by unfold stE; rw [if_pos hb]
          rw [if_pos hb, e1, e2]
          exact ⟨by decide, 49, by decide, hle, mul64r (by decide) (by decide), _, by rw [Int.mul_one]; rfl⟩
        · have e1 : stB u (lastE u st rp) t = 0 := by unfold stB; rw [if_neg hb]
          have e2 : stE u (lastE u st rp) t = lastE u st rp + t := by unfold stE; rw [if_neg hb]
          rw [if_neg hb, e1, e2]
          exact ⟨by decide, 48, by decide, hle, mul64r (by decide) (by decide), _, by rw [Int.mul_zero, Int.sub_zero]; rfl⟩
      · rintro σ H1 ⟨s5, rfl, rfl⟩
        walk_at "rd"
        exact told_id h
    · exact h.elim
theorem ok_l_bits (F : Fn K mg "_law_bits" s_l_bits p_l_bits) (T : Bl mg) (c_l_take : Cal P w K mg base "_law_take" 1 p_l_take spTake) : Cal P w K mg base "_law_bits" 2 p_l_bits spLBits := by
  refine F.cal (k := 1) sc_l_bits (fun vs H Q E h => ?_) (fun f cdv A outer s H vs Q E hr h => ?_)
  · unfold spLBits at h; split at h <;> first | rfl | exact h.elim
  · unfold spLBits at h
    split at h
    · rename_i b n
      obtain ⟨c, T0, hbx, hpl, hT, hn0, hn4, h⟩ := h
      have hu := hu_of hr
      have hu64 := hr.units
      refine ⟨_, (@pss_cons _ _ _ _ _ (@ps_set _ _ (2) _ _ _ _ sc_l_bits.nd rfl (by first | exact Or.inl rfl | exact Or.inr rfl) (@pe_cal _ _ _ _ _ _ _ _ _ _ c_l_take (hr.mono (by first | decide | omega)) (by rfl) (@pa_cons _ _ _ _ _ (@pv _ 0 _ _ (by rfl) (by first  | exact Or.inl rfl  | exact Or.inr (Or.inl rfl)  | exact Or.inr (Or.inr rfl)) (by decide) (by decide)) (@pa_cons _ _ _ _ _ pe_int pa_nil (by rfl)) (by rfl)) (by decide) (by rfl) (by rfl)) (by rfl) (by first  | exact .inl rfl  | exact .inr rfl  | assumption)) (@pss_cons _ _ _ _ _ (@ps_set _ _ (3) _ _ _ _ sc_l_bits.nd rfl (by first | exact Or.inl rfl | exact Or.inr rfl) pe_str (by rfl) (by first  | exact .inl rfl  | exact .inr rfl  | assumption)) (@pss_cons _ _ _ _ _ (@ps_for _ _ _ _ _ _ _ _ PassesOwn.never rfl (@pi_range1 _ _ _ _ _ _ (by rfl) T.b_range (@pa_cons _ _ _ _ _ (@pv _ 1 _ _ (by rfl) (by first  | exact Or.inl rfl  | exact Or.inr (Or.inl rfl)  | exact Or.inr (Or.inr rfl)) (by decide) (by decide)) pa_nil (by rfl)) (by rfl)) (@pg_name _ _ (4) _ sc_l_bits.nd rfl (by first | exact Or.inl rfl | exact Or.inr rfl) (by first  | exact .inl rfl  | exact .inr rfl  | assumption)) (@pss_one _ _ _ (@ps_set _ _ (3) _ _ _ _ sc_l_bits.nd rfl (by first | exact Or.inl rfl | exact Or.inr rfl) (@pe_op _ _ _ _ _ _ _ _ op_addX (@pv _ 3 _ _ (by rfl) (by first  | exact Or.inl rfl  | exact Or.inr (Or.inl rfl)  | exact Or.inr (Or.inr rfl)) (by decide) (by decide)) (@pe_ixX _ _ _ _ _ _ hu (@pe_ixX _ _ _ _ _ _ hu (@pe_lst _ _ _ _ (@pa_cons _ _ _ _ _ pe_str (@pa_cons _ _ _ _ _ pe_str (@pa_cons _ _ _ _ _ pe_str (@pa_cons _ _ _ _ _ pe_str pa_nil (by rfl)) (by rfl)) (by rfl)) (by rfl))) (@pv _ 2 _ _ (by rfl) (by first  | exact Or.inl rfl  | exact Or.inr (Or.inl rfl)  | exact Or.inr (Or.inr rfl)) (by decide) (by decide)) (fun _ _ => rfl)) (@pe_cal _ _ _ _ _ _ _ _ _ _ c_l_take (hr.mono (by first | decide | omega)) (by rfl) (@pa_cons _ _ _ _ _ (@pv _ 0 _ _ (by rfl) (by first  | exact Or.inl rfl  | exact Or.inr (Or.inl rfl)  | exact Or.inr (Or.inr rfl)) (by decide) (by decide)) (@pa_cons _ _ _ _ _ (@pe_ixX _ _ _ _ _ _ hu (@pe_lst _ _ _ _ (@pa_cons _ _ _ _ _ pe_int (@pa_cons _ _ _ _ _ pe_int (@pa_cons _ _ _ _ _ pe_int (@pa_cons _ _ _ _ _ pe_int pa_nil (by rfl)) (by rfl)) (by rfl)) (by rfl))) (@pv _ 2 _ _ (by rfl) (by first  | exact Or.inl rfl  | exact Or.inr (Or.inl rfl)  | exact Or.inr (Or.inr rfl)) (by decide) (by decide)) (fun _ _ => rfl)) pa_nil (by rfl)) (by rfl)) (by decide) (by rfl) (by rfl)) (fun _ _ => rfl))) (by rfl) (by first  | exact .inl rfl  | exact .inr rfl  | assumption))) (by intro _; rfl)) (@pss_one _ _ _ (@ps_ret _ _ _ _ (@pv _ 3 _ _ (by rfl) (by first  | exact Or.inl rfl  | exact Or.inr (Or.inl rfl)  | exact Or.inr (Or.inr rfl)) (by decide) (by decide))))))), ?_⟩
      walk_at "rd"
      refine take_ok hbx hpl (by decide) (sm_of (by decide) (by decide)) (by omega) fun way H1 a1 b1 x1 c1 p1 => ?_
      have k1 : Kp [b, c] H H1 := (Kp.refl _ _).chg c1 (by simp)
      walk_at "rd"
      refine forR_ok (by omega) (by omega) (fun j σ H' => ∃ (bs : List Int) (s4 : Option V), σ = [some (.ref b), some (.int n), some (.int way), some (.str (rowS bs)), s4] ∧ bs.length = j ∧ (∀ x ∈ bs, x = 0 ∨ x = 1) ∧ Box H' b c (T0 + 1 + j) ∧ Kp [b, c] H H' ∧ Pl H')
        ⟨[], _, by rw [rowS_nil], rfl, by simp, x1.mono (by omega), k1, p1⟩ ?_ ?_
      · clear x1 p1 c1 k1
        rintro j σ H2 hj ⟨bs, s4, rfl, hbl, h01, x2, k2, p2⟩
        walk_at "rd"
        refine ⟨by decide, fun q1 h1 => ?_⟩
        obtain ⟨z, hz, m, hm1, hm2, hat1, hat2, hall⟩ : ∃ z : Str, z.length ≤ 7 ∧ ∃ m : Int, 1 ≤ m ∧ m ≤ 7 ∧ atI [V.str (Str.ofString "01"), V.str (Str.ofString "01"), V.str (Str.ofString "0000001"), V.str (Str.ofString "1111110")] way = some (.str z) ∧ atI [V.int 2, V.int 2, V.int 7, V.int 7] way = some (.int m) ∧ ∀ d : Int, 0 ≤ d → d < m → ∃ c v, atI z.cps.toList d = some c ∧ (v = 0 ∨ v = 1) ∧ (⟨#[c]⟩ : Str) = Str.ofString (toString (v : Int)) := by
          have two : ∀ d : Int, 0 ≤ d → d < 2 → ∃ c v, atI (Str.ofString "01").cps.toList d = some c ∧ (v = 0 ∨ v = 1) ∧ (⟨#[c]⟩ : Str) = Str.ofString (toString (v : Int)) := fun d h0 h1 => by
            have hd : d = 0 ∨ d = 1 := by omega
            rcases hd with rfl | rfl
            · exact ⟨48, 0, by decide, .inl rfl, by decide⟩
            · exact ⟨49, 1, by decide, .inr rfl, by decide⟩
          have hd : way = 0 ∨ way = 1 ∨ way = 2 ∨ way = 3 := by omega
          rcases hd with rfl | rfl | rfl | rfl
          · exact ⟨_, by decide, 2, by omega, by omega, rfl, rfl, two⟩
          · exact ⟨_, by decide, 2, by omega, by omega, rfl, rfl, two⟩
          · refine ⟨Str.ofString "0000001", by decide, 7, by omega, by omega, rfl, rfl, fun d h0 h1 => ?_⟩
            have hd : d = 0 ∨ d = 1 ∨ d = 2 ∨ d = 3 ∨ d = 4 ∨ d = 5 ∨ d = 6 := by omega
            rcases hd with rfl | rfl | rfl | rfl | rfl | rfl | rfl
            · exact ⟨48, 0, by decide, .inl rfl, by decide⟩
            · exact ⟨48, 0, by decide, .inl rfl, by decide⟩
            · exact ⟨48, 0, by decide, .inl rfl, by decide⟩
            · exact ⟨48, 0, by decide, .inl rfl, by decide⟩
            · exact ⟨48, 0, by decide, .inl rfl, by decide⟩
            · exact ⟨48, 0, by decide, .inl rfl, by decide⟩
            · exact ⟨49, 1, by decide, .inr rfl, by decide⟩
          · refine ⟨Str.ofString "1111110", by decide, 7, by omega, by omega, rfl, rfl, fun d h0 h1 => ?_⟩
            have hd : d = 0 ∨ d = 1 ∨ d = 2 ∨ d = 3 ∨ d = 4 ∨ d = 5 ∨ d = 6 := by omega
            rcases hd with rfl | rfl | rfl | rfl | rfl | rfl | rfl
            · exact ⟨49, 1, by decide, .inr rfl, by decide⟩
            · exact ⟨49, 1, by decide, .inr rfl, by decide⟩
            · exact ⟨49, 1, by decide, .inr rfl, by decide⟩
            · exact ⟨49, 1, by decide, .inr rfl, by decide⟩
            · exact ⟨49, 1, by decide, .inr rfl, by decide⟩
            · exact ⟨49, 1, by decide, .inr rfl, by decide⟩
            · exact ⟨48, 0, by decide, .inl rfl, by decide⟩
        refine ⟨_, hat1, by decide, fun q2 h2 => ⟨_, hat2, ?_⟩⟩
        refine take_ok ((x2.new h1).new h2) ((p2.upd rfl).upd rfl) hm1 (sm_of (by omega) (by omega)) (by omega) fun d H3 a3 b3 x3 c3 p3 => ?_
        obtain ⟨ch, v, hch, hv, ech⟩ := hall d a3 b3
        have k3 := ((k2.new (o := .lst [V.str (Str.ofString "01"), V.str (Str.ofString "01"), V.str (Str.ofString "0000001"), V.str (Str.ofString "1111110")]) h1).new (o := .lst [V.int 2, V.int 2, V.int 7, V.int 7]) h2).chg c3 (by simp)
        walk_at "rd"
        refine ⟨Nat.le_trans hz (by decide), ch, hch, ?_⟩
        walk_at "rd"
        have hv1 : ∀ x ∈ [v], x = 0 ∨ x = 1 := by simpa using hv
        rw [ech, row_one hv, rowS_app h01 hv1, row_size h01, row_size hv1]
        exact ⟨Nat.le_trans (show _ ≤ 1000 by simp; omega) (show 1000 ≤ sizeLine by decide), bs ++ [v], _, rfl, by simp [hbl], app01 h01 hv1, x3.mono (by omega), k3, p3⟩
      · rintro σ H3 ⟨bs, s4, rfl, hbl, h01, x3, k3, p3⟩
        walk_at "rd"
        exact told [b, c] [] p3 k3 fun H5 hch hke hp5 => h bs H5 (by omega) h01 (x3.mono (by omega) |>.of (hke b (by simp)) (hke c (by simp))) (by simpa using hch) hp5
    · exact h.elim
theorem ok_l_some_bits (F : Fn K mg "_law_some_bits" s_l_some_bits p_l_some_bits) (T : Bl mg) (c_l_take : Cal P w K mg base "_law_take" 1 p_l_take spTake) (c_l_share : Cal P w K mg base "_law_share" 2 p_l_share spShare59) (c_l_steady : Cal P w K mg base "_law_steady" 1 p_l_steady spLSt) (c_l_bits : Cal P w K mg base "_law_bits" 2 p_l_bits spLBits) : Cal P w K mg base "_law_some_bits" 3 p_l_some_bits spSomeB := by
  refine F.cal (k := 2) sc_l_some_bits (fun vs H Q E h => ?_) (fun f cdv A outer s H vs Q E hr h => ?_)
  · unfold spSomeB at h; split at h <;> first | rfl | exact h.elim
  · unfold spSomeB at h
    split at h
    · rename_i b most
      obtain ⟨c, T0, hbx, hpl, hT, hm0, hm4, h⟩ := h
      have hu := hu_of hr
      have hu64 := hr.units
      refine ⟨_, (@pss_cons _ _ _ _ _ (@ps_set _ _ (2) _ _ _ _ sc_l_some_bits.nd rfl (by first | exact Or.inl rfl | exact Or.inr rfl) (@pe_cal _ _ _ _ _ _ _ _ _ _ c_l_take (hr.mono (by first | decide | omega)) (by rfl) (@pa_cons _ _ _ _ _ (@pv _ 0 _ _ (by rfl) (by first  | exact Or.inl rfl  | exact Or.inr (Or.inl rfl)  | exact Or.inr (Or.inr rfl)) (by decide) (by decide)) (@pa_cons _ _ _ _ _ pe_int pa_nil (by rfl)) (by rfl)) (by decide) (by rfl) (by rfl)) (by rfl) (by first  | exact .inl rfl  | exact .inr rfl  | assumption)) (@pss_cons _ _ _ _ _ (@ps_set _ _ (3) _ _ _ _ sc_l_some_bits.nd rfl (by first | exact Or.inl rfl | exact Or.inr rfl) (@pe_ixX _ _ _ _ _ _ hu (@pe_lst _ _ _ _ (@pa_cons _ _ _ _ _ (@pe_cal _ _ _ _ _ _ _ _ _ _ c_l_take (hr.mono (by first | decide | omega)) (by rfl) (@pa_cons _ _ _ _ _ (@pv _ 0 _ _ (by rfl) (by first  | exact Or.inl rfl  | exact Or.inr (Or.inl rfl)  | exact Or.inr (Or.inr rfl)) (by decide) (by decide)) (@pa_cons _ _ _ _ _ pe_int pa_nil (by rfl)) (by rfl)) (by decide) (by rfl) (by rfl)) (@pa_cons _ _ _ _ _ (@pe_cal _ _ _ _ _ _ _ _ _ _ c_l_take (hr.mono (by first | decide | omega)) (by rfl) (@pa_cons _ _ _ _ _ (@pv _ 0 _ _ (by rfl) (by first  | exact Or.inl rfl  | exact Or.inr (Or.inl rfl)  | exact Or.inr (Or.inr rfl)) (by decide) (by decide)) (@pa_cons _ _ _ _ _ pe_int pa_nil (by rfl)) (by rfl)) (by decide) (by rfl) (by rfl)) (@pa_cons _ _ _ _ _ (@pe_cal _ _ _ _ _ _ _ _ _ _ c_l_take (hr.mono (by first | decide | omega)) (by rfl) (@pa_cons _ _ _ _ _ (@pv _ 0 _ _ (by rfl) (by first  | exact Or.inl rfl  | exact Or.inr (Or.inl rfl)  | exact Or.inr (Or.inr rfl)) (by decide) (by decide)) (@pa_cons _ _ _ _ _ (@pe_op _ _ _ _ _ _ _ _ op_addX (@pv _ 1 _ _ (by rfl) (by first  | exact Or.inl rfl  | exact Or.inr (Or.inl rfl)  | exact Or.inr (Or.inr rfl)) (by decide) (by decide)) pe_int) pa_nil (by rfl)) (by rfl)) (by decide) (by rfl) (by rfl)) pa_nil (by rfl)) (by rfl)) (by rfl))) (@pe_cal _ _ _ _ _ _ _ _ _ _ c_l_take (hr.mono (by first | decide | omega)) (by rfl) (@pa_cons _ _ _ _ _ (@pv _ 0 _ _ (by rfl) (by first  | exact Or.inl rfl  | exact Or.inr (Or.inl rfl)  | exact Or.inr (Or.inr rfl)) (by decide) (by decide)) (@pa_cons _ _ _ _ _ pe_int pa_nil (by rfl)) (by rfl)) (by decide) (by rfl) (by rfl)) (fun _ _ => rfl)) (by rfl) (by first  | exact .inl rfl  | exact .inr rfl  | assumption)) (@pss_cons _ _ _ _ _ (@ps_if _ _ _ _ _ _ _ _ (@pt_cmpR _ _ _ _ _ _ _ _ op_lt (@pv _ 2 _ _ (by rfl) (by first  | exact Or.inl rfl  | exact Or.inr (Or.inl rfl)  | exact Or.inr (Or.inr rfl)) (by decide) (by decide)) pe_int (nomark _)) (@pss_one _ _ _ (@ps_ret _ _ _ _ (@pe_cal _ _ _ _ _ _ _ _ _ _ c_l_bits (hr.mono (by first | decide | omega)) (by rfl) (@pa_cons _ _ _ _ _ (@pv _ 0 _ _ (by rfl) (by first  | exact Or.inl rfl  | exact Or.inr (Or.inl rfl)  | exact Or.inr (Or.inr rfl)) (by decide) (by decide)) (@pa_cons _ _ _ _ _ (@pv _ 3 _ _ (by rfl) (by first  | exact Or.inl rfl  | exact Or.inr (Or.inl rfl)  | exact Or.inr (Or.inr rfl)) (by decide) (by decide)) pa_nil (by rfl)) (by rfl)) (by decide) (by rfl) (by rfl)))) pss_nil) (@pss_cons _ _ _ _ _ (@ps_if _ _ _ _ _ _ _ _ (@pt_cmpR _ _ _ _ _ _ _ _ (op_eqK (K := K) rfl hu64) (@pv _ 2 _ _ (by rfl) (by first  | exact Or.inl rfl  | exact Or.inr (Or.inl rfl)  | exact Or.inr (Or.inr rfl)) (by decide) (by decide)) pe_int (nomark _)) (@pss_one _ _ _ (@ps_ret _ _ _ _ (@pe_op _ _ _ _ _ _ _ _ op_mulY (@pe_ixX _ _ _ _ _ _ hu pe_str (@pe_cal _ _ _ _ _ _ _ _ _ _ c_l_take (hr.mono (by first | decide | omega)) (by rfl) (@pa_cons _ _ _ _ _ (@pv _ 0 _ _ (by rfl) (by first  | exact Or.inl rfl  | exact Or.inr (Or.inl rfl)  | exact Or.inr (Or.inr rfl)) (by decide) (by decide)) (@pa_cons _ _ _ _ _ pe_int pa_nil (by rfl)) (by rfl)) (by decide) (by rfl) (by rfl)) (fun _ _ => rfl)) (@pv _ 3 _ _ (by rfl) (by first  | exact Or.inl rfl  | exact Or.inr (Or.inl rfl)  | exact Or.inr (Or.inr rfl)) (by decide) (by decide))))) pss_nil) (@pss_cons _ _ _ _ _ (@ps_set _ _ (4) _ _ _ _ sc_l_some_bits.nd rfl (by first | exact Or.inl rfl | exact Or.inr rfl) (@pe_cal _ _ _ _ _ _ _ _ _ _ c_l_share (hr.mono (by first | decide | omega)) (by rfl) (@pa_cons _ _ _ _ _ (@pv _ 0 _ _ (by rfl) (by first  | exact Or.inl rfl  | exact Or.inr (Or.inl rfl)  | exact Or.inr (Or.inr rfl)) (by decide) (by decide)) (@pa_cons _ _ _ _ _ pe_int pa_nil (by rfl)) (by rfl)) (by decide) (by rfl) (by rfl)) (by rfl) (by first  | exact .inl rfl  | exact .inr rfl  | assumption)) (@pss_cons _ _ _ _ _ (@ps_set _ _ (5) _ _ _ _ sc_l_some_bits.nd rfl (by first | exact Or.inl rfl | exact Or.inr rfl) (@pe_cal _ _ _ _ _ _ _ _ _ _ c_l_steady (hr.mono (by first | decide | omega)) (by rfl) (@pa_cons _ _ _ _ _ (@pv _ 4 _ _ (by rfl) (by first  | exact Or.inl rfl  | exact Or.inr (Or.inl rfl)  | exact Or.inr (Or.inr rfl)) (by decide) (by decide)) (@pa_cons _ _ _ _ _ (@pe_cal _ _ _ _ _ _ _ _ _ _ c_l_take (hr.mono (by first | decide | omega)) (by rfl) (@pa_cons _ _ _ _ _ (@pv _ 0 _ _ (by rfl) (by first  | exact Or.inl rfl  | exact Or.inr (Or.inl rfl)  | exact Or.inr (Or.inr rfl)) (by decide) (by decide)) (@pa_cons _ _ _ _ _ (@pe_ixX _ _ _ _ _ _ hu (@pv _ 4 _ _ (by rfl) (by first  | exact Or.inl rfl  | exact Or.inr (Or.inl rfl)  | exact Or.inr (Or.inr rfl)) (by decide) (by decide)) pe_int (fun _ _ => rfl)) pa_nil (by rfl)) (by rfl)) (by decide) (by rfl) (by rfl)) (@pa_cons _ _ _ _ _ (@pv _ 3 _ _ (by rfl) (by first  | exact Or.inl rfl  | exact Or.inr (Or.inl rfl)  | exact Or.inr (Or.inr rfl)) (by decide) (by decide)) pa_nil (by rfl)) (by rfl)) (by rfl)) (by decide) (by rfl) (by rfl)) (by rfl) (by first  | exact .inl rfl  | exact .inr rfl  | assumption)) (@pss_consC _ _ _ _ _ (@ps_if _ _ _ _ _ _ _ _ (PW.pt (@pw_and _ _ _ _ _ _ _ (@pt_cmpR _ _ _ _ _ _ _ _ (op_eqK (K := K) rfl hu64) (@pv _ 2 _ _ (by rfl) (by first  | exact Or.inl rfl  | exact Or.inr (Or.inl rfl)  | exact Or.inr (Or.inr rfl)) (by decide) (by decide)) pe_int (nomark _)) (@pw_and1 _ _ _ _ (@pt_cmpR _ _ _ _ _ _ _ _ (op_neK (K := K) rfl hu64) (@pv _ 5 _ _ (by rfl) (by first  | exact Or.inl rfl  | exact Or.inr (Or.inl rfl)  | exact Or.inr (Or.inr rfl)) (by decide) (by decide)) pe_str (nomark _))))) (@pss_cons _ _ _ _ _ (@ps_set _ _ (6) _ _ _ _ sc_l_some_bits.nd rfl (by first | exact Or.inl rfl | exact Or.inr rfl) (@pe_cal _ _ _ _ _ _ _ _ _ _ c_l_take (hr.mono (by first | decide | omega)) (by rfl) (@pa_cons _ _ _ _ _ (@pv _ 0 _ _ (by rfl) (by first  | exact Or.inl rfl  | exact Or.inr (Or.inl rfl)  | exact Or.inr (Or.inr rfl)) (by decide) (by decide)) (@pa_cons _ _ _ _ _ (@pv _ 3 _ _ (by rfl) (by first  | exact Or.inl rfl  | exact Or.inr (Or.inl rfl)  | exact Or.inr (Or.inr rfl)) (by decide) (by decide)) pa_nil (by rfl)) (by rfl)) (by decide) (by rfl) (by rfl)) (by rfl) (by first  | exact .inl rfl  | exact .inr rfl  | assumption)) (@pss_one _ _ _ (@ps_set _ _ (5) _ _ _ _ sc_l_some_bits.nd rfl (by first | exact Or.inl rfl | exact Or.inr rfl) (@pe_op _ _ _ _ _ _ _ _ op_addX (@pe_op _ _ _ _ _ _ _ _ op_addX (@pe_slice _ _ _ _ _ _ _ _ _ _ sl_X (@pv _ 5 _ _ (by rfl) (by first  | exact Or.inl rfl  | exact Or.inr (Or.inl rfl)  | exact Or.inr (Or.inr rfl)) (by decide) (by decide)) po_none (@po_some _ _ _ (@pv _ 6 _ _ (by rfl) (by first  | exact Or.inl rfl  | exact Or.inr (Or.inl rfl)  | exact Or.inr (Or.inr rfl)) (by decide) (by decide)))) (@pe_ixX _ _ _ _ _ _ hu pe_str (@pe_callTy _ _ _ _ _ _ _ _ _ call_intX (by rfl) T.b_int bt_int (@pa_cons _ _ _ _ _ (@pe_ixX _ _ _ _ _ _ hu (@pv _ 5 _ _ (by rfl) (by first  | exact Or.inl rfl  | exact Or.inr (Or.inl rfl)  | exact Or.inr (Or.inr rfl)) (by decide) (by decide)) (@pv _ 6 _ _ (by rfl) (by first  | exact Or.inl rfl  | exact Or.inr (Or.inl rfl)  | exact Or.inr (Or.inr rfl)) (by decide) (by decide)) (fun _ _ => rfl)) pa_nil (by rfl)) (by decide) (by decide) (by rfl) (by rfl)) (fun _ _ => rfl))) (@pe_slice _ _ _ _ _ _ _ _ _ _ sl_X (@pv _ 5 _ _ (by rfl) (by first  | exact Or.inl rfl  | exact Or.inr (Or.inl rfl)  | exact Or.inr (Or.inr rfl)) (by decide) (by decide)) (@po_some _ _ _ (@pe_op _ _ _ _ _ _ _ _ op_addX (@pv _ 6 _ _ (by rfl) (by first  | exact Or.inl rfl  | exact Or.inr (Or.inl rfl)  | exact Or.inr (Or.inr rfl)) (by decide) (by decide)) pe_int)) po_none)) (by rfl) (by first  | exact .inl rfl  | exact .inr rfl  | assumption)))) pss_nil) (@pss_one _ _ _ (@ps_ret _ _ _ _ (@pv _ 5 _ _ (by rfl) (by first  | exact Or.inl rfl  | exact Or.inr (Or.inl rfl)  | exact Or.inr (Or.inr rfl)) (by decide) (by decide))))))))))), ?_⟩
      walk_at "rd"
      refine take_ok hbx hpl (by decide) (sm_of (by decide) (by decide)) (by omega) fun way H1 a1 b1 x1 c1 p1 => ?_
      refine take_ok x1 p1 (by decide) (sm_of (by decide) (by decide)) (by omega) fun d2 H2 a2 b2 x2 c2 p2 => ?_
      refine take_ok x2 p2 (by decide) (sm_of (by decide) (by decide)) (by omega) fun d3 H3 a3 b3 x3 c3 p3 => ?_
      walk_at "rd"
      refine take_ok x3 p3 (by omega) (sm_of (by omega) (by omega)) (by omega) fun d4 H4 a4 b4 x4 c4 p4 => ?_
      have k4 : Kp [b, c] H H4 := ((((Kp.refl _ _).chg c1 (by simp)).chg c2 (by simp)).chg c3 (by simp)).chg c4 (by simp)
      refine ⟨by decide, fun q hq => ?_⟩
      have nqb : q ≠ b := fun e => x4.hb (e ▸ hq)
      have nqc : q ≠ c := fun e => x4.hc (e ▸ hq)
      refine take_ok (x4.new hq) (p4.upd rfl) (by decide) (sm_of (by decide) (by decide)) (by omega) fun e H5 a5 b5 x5 c5 p5 => ?_
      have gq : H5 q = _ := chg_keep c5 upd_same nqb nqc
      have k5 : Kp [b, c] H H5 := (k4.new hq).chg c5 (by simp)
      obtain ⟨mn, hmn, hat⟩ : ∃ mn : Nat, (mn : Int) ≤ most ∧ atI [V.int d2, V.int d3, V.int d4] e = some (.int mn) := by
        have hd : e = 0 ∨ e = 1 ∨ e = 2 := by omega
        rcases hd with rfl | rfl | rfl
        · exact ⟨d2.toNat, by omega, by rw [show ((d2.toNat : Nat) : Int) = d2 by omega]; rfl⟩
        · exact ⟨d3.toNat, by omega, by rw [show ((d3.toNat : Nat) : Int) = d3 by omega]; rfl⟩
        · exact ⟨d4.toNat, by omega, by rw [show ((d4.toNat : Nat) : Int) = d4 by omega]; rfl⟩
      simp only [L2.start, tSeq, tAsg, tRet, tIfS, tNext, tDrop, tPar, tVar, tC, tOp, tUn, tCall, tCB, tCons, tNil, tTup, tLst, tTest, tNot, tTru, tAnd, tOr, tIf, tAndV, tOrV, tNotX, tB, tSl, tPart, tNoPart, tBX, tBX0, tChain, gName, gCons, gNil, gSub, rI_ii, rI0_ii, rU_i, ex_bl, ex_int, ex_some, ex_two, ex_cons, ex_str, ex_v, nil_and, e_add_ii, e_add_ss, e_add_rr, e_cat, e_mul_ii, e_mul_ri, e_rep, e_ix_s, e_ix_r, e_ixO_l, e_ixO_t, at_0, at_1, e_setX, e_setO_l, e_gTup, e_gTupO, e_len_s, e_len_r, e_lenO_l, e_lenO_t, e_lenO_d, e_abs, e_max, e_min, e_int_i, e_int_b, e_int_s, e_listO_l, e_listO_t, e_divmod, e_all, e_isi, e_eq_ii, e_eq_ss, e_eq_bb, e_ne_ii, e_ne_ss, e_ne_bb, e_tru_n, e_tru_b, e_tru_i, e_tru_s, e_tru_r, e_truO_l, e_truO_t, e_sl_s, e_sl_r, e_slO, e_app, e_appO, e_rev, e_revO, e_tyX_l, e_tyXO_l, e_tyX_s, e_iO_l, e_iO_t, e_upd_same, e_upd_ne, ne_eq, not_false_eq_true, e_isN_n, e_isN_i, e_isN_b, e_isN_s, e_isN_r, e_non, e_tyN_i, e_tyN_b, e_tyN_s, e_tyN_n, e_tyN_r, e_tyO_l, e_tyO_t, e_tyO_d, e_box_turn, e_box_cells, e_box_put, List.map_cons, List.map_nil, List.length_cons, List.length_nil, List.replicate, List.append_nil, List.nil_append, List.cons_append, List.getElem?_cons_zero, List.getElem?_cons_succ, List.set_cons_zero, List.set_cons_succ, Nat.reduceAdd, Nat.reduceSub, ite_t, ite_f, decide_eq_true_eq, reduceIte, true_and, and_true, Bool.not_true, Bool.not_false, m_bool, m_int, m_str, m_list, m_tuple, m_dict, isTab, String.reduceBEq, Bool.and_false, Bool.and_true, Bool.or_false, Bool.false_or, Bool.or_true, Bool.true_or, Bool.false_and, Bool.true_and, decide_true, decide_false, Bool.false_eq_true, reduceCtorEq, e_isi_lt, tAug, e_for, e_forR1, e_forR2, e_forR3, e_sortS, e_addT_ii, e_addT_ss, e_addT_rr, e_catT_l, e_catT_t, e_addW_ii, e_addW_ss, e_addW_rr, e_catW_l, e_catW_t, e_forZ, e_lc, e_lcR1, e_lcR2, e_lcZ, tRv, e_rv, tM1, e_join, e_spl, e_cnt, e_cntO, e_idx, tRaise, tTry, e_forEs, e_mulY_ii, e_mulY_ri, e_mulY_si, tTryS, tTryN, xAsg, xExp, xIf, e_forEl, e_stw, e_maxY_ii, e_maxY_r, e_minY_ii, e_minY_r, e_anyY, e_sumY, tLR1, tLR2, tPar3, ex_three, e_lcEs, e_strY_i, e_listY_r, e_listY_s, e_pop, e_popO, e_popAt, e_ext, e_clr, e_clrO, e_isB, e_isNB, e_lenS, e_lenSO, e_sc, at_2, at_3, e_cntS, tAsg2, e_other, e_lcEl, e_ins, e_insO, tAugS, e_getL, tChain3, tChain4, e_gLst, e_gLstO, tRvY, e_rvY_s, e_rvY_r, e_stp, tOrW, e_forZ3, e_sameW, tDDef, tDNewT, e_forEz, e_inS, e_ninS, tCBK, gq, hat]
      clear x1 p1 c1 x2 p2 c2 x3 p3 c3 x4 p4 c4 k4 c5 gq hat
      have fin : ∀ (bs : List Int) (H' : Hp) (T' : Int), (bs.length : Int) ≤ most → (∀ x ∈ bs, x = 0 ∨ x = 1) → Box H' b c T' → T' ≤ T0 + 600 → Kp [b, c] H H' → Pl H' → Told H Q (.str (rowS bs)) H' := fun bs H' T' l1 l2 x hT' k p =>
        told [b, c] [] p k fun H6 hch hke hp6 => h bs H6 l1 l2 (x.mono hT' |>.of (hke b (by simp)) (hke c (by simp))) (by simpa using hch) hp6
      split
      · refine lbits_ok x5 p5 (by omega) (by omega) (by omega) fun bs H6 hl h01 x6 c6 p6 => ?_
        exact fin bs H6 _ (by omega) h01 x6 (by omega) (k5.chg c6 (by simp)) p6
      · split
        · refine take_ok x5 p5 (by decide) (sm_of (by decide) (by decide)) (by omega) fun d H6 a6 b6 x6 c6 p6 => ?_
          obtain ⟨ch, hch, ech⟩ := zo_at a6 b6
          have hd1 : ∀ x ∈ [d], x = 0 ∨ x = 1 := by intro x hx; simp at hx; omega
          walk_at "rd"
          refine ⟨by decide, ch, hch, ?_⟩
          rw [ech]
          refine ⟨mulok0 (by omega) (by omega) ?_ ?_, ?_⟩
          · rw [row_size hd1]; show 1 * _ ≤ _; omega
          · rw [row_size hd1]; show 1 ≤ _; omega
          · rw [rowS_mul0 hd1 (by omega), flat_one]
            exact fin _ H6 _ (by rw [List.length_replicate]; omega) (rep01 (by omega)) x6 (by omega) (k5.chg c6 (by simp)) p6
        · refine share59_ok x5 p5 (by omega) (by omega) (by omega) fun sh t u H6 hsh gsh h0t htu h1u hu30 x6 c6 p6 => ?_
          have nsb : sh ≠ b := fun e => x5.hb (e ▸ hsh)
          have nsc : sh ≠ c := fun e => x5.hc (e ▸ hsh)
          have hshH : H sh = none := k5.none hsh (by simp [nsb, nsc])
          have k6 : Kp [b, c] H H6 := k5.chg c6 (by intro a ha; simp at ha; rcases ha with rfl | rfl | rfl <;> simp [hshH])
          simp only [L2.start, tSeq, tAsg, tRet, tIfS, tNext, tDrop, tPar, tVar, tC, tOp, tUn, tCall, tCB, tCons, tNil, tTup, tLst, tTest, tNot, tTru, tAnd, tOr, tIf, tAndV, tOrV, tNotX, tB, tSl, tPart, tNoPart, tBX, tBX0, tChain, gName, gCons, gNil, gSub, rI_ii, rI0_ii, rU_i, ex_bl, ex_int, ex_some, ex_two, ex_cons, ex_str, ex_v, nil_and, e_add_ii, e_add_ss, e_add_rr, e_cat, e_mul_ii, e_mul_ri, e_rep, e_ix_s, e_ix_r, e_ixO_l, e_ixO_t, at_0, at_1, e_setX, e_setO_l, e_gTup, e_gTupO, e_len_s, e_len_r, e_lenO_l, e_lenO_t, e_lenO_d, e_abs, e_max, e_min, e_int_i, e_int_b, e_int_s, e_listO_l, e_listO_t, e_divmod, e_all, e_isi, e_eq_ii, e_eq_ss, e_eq_bb, e_ne_ii, e_ne_ss, e_ne_bb, e_tru_n, e_tru_b, e_tru_i, e_tru_s, e_tru_r, e_truO_l, e_truO_t, e_sl_s, e_sl_r, e_slO, e_app, e_appO, e_rev, e_revO, e_tyX_l, e_tyXO_l, e_tyX_s, e_iO_l, e_iO_t, e_upd_same, e_upd_ne, ne_eq, not_false_eq_true, e_isN_n, e_isN_i, e_isN_b, e_isN_s, e_isN_r, e_non, e_tyN_i, e_tyN_b, e_tyN_s, e_tyN_n, e_tyN_r, e_tyO_l, e_tyO_t, e_tyO_d, e_box_turn, e_box_cells, e_box_put, List.map_cons, List.map_nil, List.length_cons, List.length_nil, List.replicate, List.append_nil, List.nil_append, List.cons_append, List.getElem?_cons_zero, List.getElem?_cons_succ, List.set_cons_zero, List.set_cons_succ, Nat.reduceAdd, Nat.reduceSub, ite_t, ite_f, decide_eq_true_eq, reduceIte, true_and, and_true, Bool.not_true, Bool.not_false, m_bool, m_int, m_str, m_list, m_tuple, m_dict, isTab, String.reduceBEq, Bool.and_false, Bool.and_true, Bool.or_false, Bool.false_or, Bool.or_true, Bool.true_or, Bool.false_and, Bool.true_and, decide_true, decide_false, Bool.false_eq_true, reduceCtorEq, e_isi_lt, tAug, e_for, e_forR1, e_forR2, e_forR3, e_sortS, e_addT_ii, e_addT_ss, e_addT_rr, e_catT_l, e_catT_t, e_addW_ii, e_addW_ss, e_addW_rr, e_catW_l, e_catW_t, e_forZ, e_lc, e_lcR1, e_lcR2, e_lcZ, tRv, e_rv, tM1, e_join, e_spl, e_cnt, e_cntO, e_idx, tRaise, tTry, e_forEs, e_mulY_ii, e_mulY_ri, e_mulY_si, tTryS, tTryN, xAsg, xExp, xIf, e_forEl, e_stw, e_maxY_ii, e_maxY_r, e_minY_ii, e_minY_r, e_anyY, e_sumY, tLR1, tLR2, tPar3, ex_three, e_lcEs, e_strY_i, e_listY_r, e_listY_s, e_pop, e_popO, e_popAt, e_ext, e_clr, e_clrO, e_isB, e_isNB, e_lenS, e_lenSO, e_sc, at_2, at_3, e_cntS, tAsg2, e_other, e_lcEl, e_ins, e_insO, tAugS, e_getL, tChain3, tChain4, e_gLst, e_gLstO, tRvY, e_rvY_s, e_rvY_r, e_stp, tOrW, e_forZ3, e_sameW, tDDef, tDNewT, e_forEz, e_inS, e_ninS, tCBK, gsh]
          refine take_ok x6 p6 (by omega) (sm_of (by omega) (by omega)) (by omega) fun st H7 a7 b7 x7 c7 p7 => ?_
          have g7 := chg_keep c7 gsh nsb nsc
          refine lst_ok g7 (by omega) (by omega) (by omega) (by omega) ?_
          have hb0 : ∀ x ∈ bitsE u st (List.replicate (mn : Int).toNat t), x = 0 ∨ x = 1 := bits01 u _ st
          have hb1 : (bitsE u st (List.replicate (mn : Int).toNat t)).length = mn := by rw [bitsE_len, List.length_replicate]; omega
          generalize bitsE u st (List.replicate (mn : Int).toNat t) = bs at hb0 hb1 ⊢
          have k7 := k6.chg c7 (by simp)
          clear x5 p5 x6 p6 c6 c7 hsh gsh g7 k5 k6
          refine e_cut (fun σ' H' => ∃ (bs : List Int) (s6 : Option V), σ' = [some (.ref b), some (.int most), some (.int way), some (.int mn), some (.ref sh), some (.str (rowS bs)), s6] ∧ (bs.length : Int) ≤ most ∧ (∀ x ∈ bs, x = 0 ∨ x = 1) ∧ Box H' b c (T0 + 100) ∧ Kp [b, c] H H' ∧ Pl H') ?_ ?_
          · walk_at "rd"
            split
            · split
              · rename_i hne
                have hmn0 : 0 < mn := by
                  by_cases h0 : mn = 0
                  · exfalso
                    have : bs = [] := List.length_eq_zero_iff.mp (by omega)
                    subst this
                    rw [rowS_nil] at hne
                    simp at hne
                  · omega
                refine take_ok x7 p7 (by omega) (sm_of (by omega) (by omega)) (by omega) fun at' H8 a8 b8 x8 c8 p8 => ?_
                obtain ⟨k, rfl⟩ : ∃ k : Nat, at' = (k : Int) := ⟨at'.toNat, by omega⟩
                walk_at "rd"
                exact bend_ok (k := k) (Q := fun z => ∃ (bs' : List Int) (s6' : Option V), [some (V.ref b), some (V.int most), some (V.int way), some (V.int mn), some (V.ref sh), some (V.str z), some (V.int k)] = [some (V.ref b), some (V.int most), some (V.int way), some (V.int mn), some (V.ref sh), some (V.str (rowS bs')), s6'] ∧ (bs'.length : Int) ≤ most ∧ (∀ x ∈ bs', x = 0 ∨ x = 1) ∧ Box H8 b c (T0 + 100) ∧ Kp [b, c] H H8 ∧ Pl H8) hb0 (by omega) (by omega) fun bs' hl' h01' => ⟨bs', _, rfl, by omega, h01', x8.mono (by omega), k7.chg c8 (by simp), p8⟩
              · exact ⟨bs, _, rfl, by omega, hb0, x7.mono (by omega), k7, p7⟩
            · exact ⟨bs, _, rfl, by omega, hb0, x7.mono (by omega), k7, p7⟩
          · rintro σ H8 ⟨bs, s6, rfl, hl8, h018, x8, k8, p8⟩
            walk_at "rd"
            exact fin bs H8 _ hl8 h018 x8 (by omega) k8 p8
    · exact h.elim
theorem ok_l_step (F : Fn K mg "_law_step" s_l_step p_l_step) (T : Bl mg) : Cal P w K mg base "_law_step" 2 p_l_step spPress := by
  refine F.cal (k := 1) sc_l_step (fun vs H Q E h => ?_) (fun f cdv A outer s H vs Q E hr h => ?_)
  · unfold spPress at h; split at h <;> first | rfl | exact h.elim
  · unfold spPress at h
    split at h
    · rename_i z
      obtain ⟨bs, rfl, h01, hbl, hpl, h0, h1⟩ := h
      have hu := hu_of hr
      have hu64 := hr.units
      refine ⟨_, (@pss_consC _ _ _ _ _ (@ps_if _ _ _ _ _ _ _ _ (PW.pt (@pw_or _ _ _ _ _ _ _ (@pt_cmpR _ _ _ _ _ _ _ _ op_notInS pe_str (@pv _ 0 _ _ (by rfl) (by first  | exact Or.inl rfl  | exact Or.inr (Or.inl rfl)  | exact Or.inr (Or.inr rfl)) (by decide) (by decide)) (by rfl)) (@pw_or1 _ _ _ _ (@pt_cmpR _ _ _ _ _ _ _ _ op_notInS pe_str (@pv _ 0 _ _ (by rfl) (by first  | exact Or.inl rfl  | exact Or.inr (Or.inl rfl)  | exact Or.inr (Or.inr rfl)) (by decide) (by decide)) (by rfl))))) (@pss_one _ _ _ (@ps_ret _ _ _ _ pe_non)) pss_nil) (@pss_cons _ _ _ _ _ (@ps_set _ _ (1) _ _ _ _ sc_l_step.nd rfl (by first | exact Or.inl rfl | exact Or.inr rfl) (@pe_callTy _ _ _ _ _ _ _ _ _ call_intX (by rfl) T.b_int bt_int (@pa_cons _ _ _ _ _ (@pe_cmpR _ _ _ _ _ _ _ _ op_inS pe_str (@pv _ 0 _ _ (by rfl) (by first  | exact Or.inl rfl  | exact Or.inr (Or.inl rfl)  | exact Or.inr (Or.inr rfl)) (by decide) (by decide)) (by rfl)) pa_nil (by rfl)) (by decide) (by decide) (by rfl) (by rfl)) (by rfl) (by first  | exact .inl rfl  | exact .inr rfl  | assumption)) (@pss_consC _ _ _ _ _ (@ps_if _ _ _ _ _ _ _ _ (@pt_cmpR _ _ _ _ _ _ _ _ (op_eqK (K := K) rfl hu64) (@pv _ 1 _ _ (by rfl) (by first  | exact Or.inl rfl  | exact Or.inr (Or.inl rfl)  | exact Or.inr (Or.inr rfl)) (by decide) (by decide)) pe_int (nomark _)) (@pss_one _ _ _ (@ps_set _ _ (0) _ _ _ _ sc_l_step.nd rfl (by first | exact Or.inl rfl | exact Or.inr rfl) (@pe_joinX _ _ _ _ _ _ _ pe_str (@pe_lc _ _ _ _ _ _ ([("_law_bit", 3)]) _ _ _ _ _ (by rfl) sc_l_step.nd (@pi_X _ _ _ _ (@pv _ 0 _ _ (by rfl) (by first  | exact Or.inl rfl  | exact Or.inr (Or.inl rfl)  | exact Or.inr (Or.inr rfl)) (by decide) (by decide))) (blkOk_by (own := [("_law_bit", 3)]) (N := ["_law_row", "_law_flip", "_law_lengths", "_law_bit", "_law_between", "_law_least", "_law_length"]) (sc := defScope s_l_step) (by decide +kernel)) (fun _ _ _ _ _ => (@pg_name _ _ (3) _ sc_l_step.nd rfl (by first | exact Or.inl rfl | exact Or.inr rfl) (by first  | exact .inl rfl  | exact .inr rfl  | assumption))) (fun _ _ _ _ _ => pts_nil) (fun _ _ _ _ _ => (@pe_ixX _ _ _ _ _ _ hu pe_str (@pe_callTy _ _ _ _ _ _ _ _ _ call_intX (by rfl) T.b_int bt_int (@pa_cons _ _ _ _ _ (@pv _ 3 _ _ (by rfl) (by first  | exact Or.inl rfl  | exact Or.inr (Or.inl rfl)  | exact Or.inr (Or.inr rfl)) (by decide) (by decide)) pa_nil (by rfl)) (by decide) (by decide) (by rfl) (by rfl)) (fun _ _ => rfl))) (by intro _; rfl)) (by rfl) (by rfl) (by rfl)) (by rfl) (by first  | exact .inl rfl  | exact .inr rfl  | assumption))) pss_nil) (@pss_cons _ _ _ _ _ (@ps_set _ _ (2) _ _ _ _ sc_l_step.nd rfl (by first | exact Or.inl rfl | exact Or.inr rfl) (@pe_lst _ _ _ _ (@pa_cons _ _ _ _ _ pe_int pa_nil (by rfl))) (by rfl) (by first  | exact .inl rfl  | exact .inr rfl  | assumption)) (@pss_cons _ _ _ _ _ (@ps_for _ _ _ _ _ _ _ _ PassesOwn.never rfl (@pi_X _ _ _ _ (@pv _ 0 _ _ (by rfl) (by first  | exact Or.inl rfl  | exact Or.inr (Or.inl rfl)  | exact Or.inr (Or.inr rfl)) (by decide) (by decide))) (@pg_name _ _ (3) _ sc_l_step.nd rfl (by first | exact Or.inl rfl | exact Or.inr rfl) (by first  | exact .inl rfl  | exact .inr rfl  | assumption)) (@pss_one _ _ _ (@ps_if _ _ _ _ _ _ _ _ (@pt_cmpR _ _ _ _ _ _ _ _ (op_eqK (K := K) rfl hu64) (@pv _ 3 _ _ (by rfl) (by first  | exact Or.inl rfl  | exact Or.inr (Or.inl rfl)  | exact Or.inr (Or.inr rfl)) (by decide) (by decide)) pe_str (nomark _)) (@pss_one _ _ _ (@ps_expr _ _ _ _ (@pe_bmX _ _ _ _ _ _ _ _ _ _ _ _ PySem.F.plainAttrs_list PySem.F.slot_list_append PySem.F.type_list_append mt_appX (@pv _ 2 _ _ (by rfl) (by first  | exact Or.inl rfl  | exact Or.inr (Or.inl rfl)  | exact Or.inr (Or.inr rfl)) (by decide) (by decide)) (@pa_cons _ _ _ _ _ pe_int pa_nil (by rfl)) (by rfl) (by rfl) (by rfl) (by rfl) (by rfl)) (by rfl))) (@pss_one _ _ _ (@ps_asg _ _ _ _ _ _ (@pe_op _ _ _ _ _ _ _ _ op_addX (@pe_ixX _ _ _ _ _ _ hu (@pv _ 2 _ _ (by rfl) (by first  | exact Or.inl rfl  | exact Or.inr (Or.inl rfl)  | exact Or.inr (Or.inr rfl)) (by decide) (by decide)) (@pe_un _ _ _ _ _ _ un_neg pe_int) (fun _ _ => rfl)) pe_int) (@pg_sub _ _ _ _ _ _ _ (@pv _ 2 _ _ (by rfl) (by first  | exact Or.inl rfl  | exact Or.inr (Or.inl rfl)  | exact Or.inr (Or.inr rfl)) (by decide) (by decide)) (@pe_un _ _ _ _ _ _ un_neg pe_int) (set_X hu) (by intro _; rfl)) (by rfl) (by rfl) (by rfl))))) (by intro _; rfl)) (@pss_cons _ _ _ _ _ (@ps_set _ _ (4) _ _ _ _ sc_l_step.nd rfl (by first | exact Or.inl rfl | exact Or.inr rfl) (@pe_slice _ _ _ _ _ _ _ _ _ _ sl_X (@pv _ 2 _ _ (by rfl) (by first  | exact Or.inl rfl  | exact Or.inr (Or.inl rfl)  | exact Or.inr (Or.inr rfl)) (by decide) (by decide)) (@po_some _ _ _ pe_int) (@po_some _ _ _ (@pe_un _ _ _ _ _ _ un_neg pe_int))) (by rfl) (by first  | exact .inl rfl  | exact .inr rfl  | assumption)) (@pss_consC _ _ _ _ _ (@ps_if _ _ _ _ _ _ _ _ (PW.pt (@pw_or _ _ _ _ _ _ _ (@pt_cmpR _ _ _ _ _ _ _ _ op_inS pe_str (@pv _ 0 _ _ (by rfl) (by first  | exact Or.inl rfl  | exact Or.inr (Or.inl rfl)  | exact Or.inr (Or.inr rfl)) (by decide) (by decide)) (by rfl)) (@pw_or1 _ _ _ _ (PW.pt (@pw_and _ _ _ _ _ _ _ (@pt_cmpR _ _ _ _ _ _ _ _ (op_neK (K := K) rfl hu64) (@pv _ 4 _ _ (by rfl) (by first  | exact Or.inl rfl  | exact Or.inr (Or.inl rfl)  | exact Or.inr (Or.inr rfl)) (by decide) (by decide)) (@pe_lst _ _ _ _ pa_nil) (nomark _)) (@pw_and1 _ _ _ _ (@pt_cmpR _ _ _ _ _ _ _ _ op_gt (@pe_op _ _ _ _ _ _ _ _ op_sub (@pe_callB _ _ _ _ _ _ _ _ _ (call_maxY rfl) (by rfl) T.b_max bt_max (@pa_cons _ _ _ _ _ (@pv _ 4 _ _ (by rfl) (by first  | exact Or.inl rfl  | exact Or.inr (Or.inl rfl)  | exact Or.inr (Or.inr rfl)) (by decide) (by decide)) pa_nil (by rfl)) (by decide) (by decide) (by rfl) (by rfl)) (@pe_callB _ _ _ _ _ _ _ _ _ (call_minY rfl) (by rfl) T.b_min bt_min (@pa_cons _ _ _ _ _ (@pv _ 4 _ _ (by rfl) (by first  | exact Or.inl rfl  | exact Or.inr (Or.inl rfl)  | exact Or.inr (Or.inr rfl)) (by decide) (by decide)) pa_nil (by rfl)) (by decide) (by decide) (by rfl) (by rfl))) pe_int (nomark _)))))))) (@pss_one _ _ _ (@ps_ret _ _ _ _ pe_non)) pss_nil) (@pss_consC _ _ _ _ _ (@ps_set _ _ (5) _ _ _ _ sc_l_step.nd rfl (by first | exact Or.inl rfl | exact Or.inr rfl) (@pe_ifExp _ _ _ _ _ _ _ _ (@pt_cmpR _ _ _ _ _ _ _ _ (op_neK (K := K) rfl hu64) (@pv _ 4 _ _ (by rfl) (by first  | exact Or.inl rfl  | exact Or.inr (Or.inl rfl)  | exact Or.inr (Or.inr rfl)) (by decide) (by decide)) (@pe_lst _ _ _ _ pa_nil) (nomark _)) (@pe_callB _ _ _ _ _ _ _ _ _ (call_minY rfl) (by rfl) T.b_min bt_min (@pa_cons _ _ _ _ _ (@pv _ 4 _ _ (by rfl) (by first  | exact Or.inl rfl  | exact Or.inr (Or.inl rfl)  | exact Or.inr (Or.inr rfl)) (by decide) (by decide)) pa_nil (by rfl)) (by decide) (by decide) (by rfl) (by rfl)) pe_int) (by rfl) (by first  | exact .inl rfl  | exact .inr rfl  | assumption)) (@pss_one _ _ _ (@ps_ret _ _ _ _ (@pe_tup _ _ _ _ _ (@pa_cons _ _ _ _ _ (@pe_tup _ _ _ _ _ (@pa_cons _ _ _ _ _ (@pv _ 1 _ _ (by rfl) (by first  | exact Or.inl rfl  | exact Or.inr (Or.inl rfl)  | exact Or.inr (Or.inr rfl)) (by decide) (by decide)) (@pa_cons _ _ _ _ _ (@pv _ 5 _ _ (by rfl) (by first  | exact Or.inl rfl  | exact Or.inr (Or.inl rfl)  | exact Or.inr (Or.inr rfl)) (by decide) (by decide)) (@pa_cons _ _ _ _ _ (@pe_ixX _ _ _ _ _ _ hu (@pv _ 2 _ _ (by rfl) (by first  | exact Or.inl rfl  | exact Or.inr (Or.inl rfl)  | exact Or.inr (Or.inr rfl)) (by decide) (by decide)) pe_int (fun _ _ => rfl)) (@pa_cons _ _ _ _ _ (@pe_ixX _ _ _ _ _ _ hu (@pv _ 2 _ _ (by rfl) (by first  | exact Or.inl rfl  | exact Or.inr (Or.inl rfl)  | exact Or.inr (Or.inr rfl)) (by decide) (by decide)) (@pe_un _ _ _ _ _ _ un_neg pe_int) (fun _ _ => rfl)) pa_nil (by rfl)) (by rfl)) (by rfl)) (by rfl))) (@pa_cons _ _ _ _ _ (@pe_joinX _ _ _ _ _ _ _ pe_str (@pe_lc _ _ _ _ _ _ ([("_law_length", 6)]) _ _ _ _ _ (by rfl) sc_l_step.nd (@pi_X _ _ _ _ (@pv _ 4 _ _ (by rfl) (by first  | exact Or.inl rfl  | exact Or.inr (Or.inl rfl)  | exact Or.inr (Or.inr rfl)) (by decide) (by decide))) (blkOk_by (own := [("_law_length", 6)]) (N := ["_law_row", "_law_flip", "_law_lengths", "_law_bit", "_law_between", "_law_least", "_law_length"]) (sc := defScope s_l_step) (by decide +kernel)) (fun _ _ _ _ _ => (@pg_name _ _ (6) _ sc_l_step.nd rfl (by first | exact Or.inl rfl | exact Or.inr rfl) (by first  | exact .inl rfl  | exact .inr rfl  | assumption))) (fun _ _ _ _ _ => pts_nil) (fun _ _ _ _ _ => (@pe_ixX _ _ _ _ _ _ hu pe_str (@pe_callTy _ _ _ _ _ _ _ _ _ call_intX (by rfl) T.b_int bt_int (@pa_cons _ _ _ _ _ (@pe_cmpR _ _ _ _ _ _ _ _ op_gt (@pv _ 6 _ _ (by rfl) (by first  | exact Or.inl rfl  | exact Or.inr (Or.inl rfl)  | exact Or.inr (Or.inr rfl)) (by decide) (by decide)) (@pv _ 5 _ _ (by rfl) (by first  | exact Or.inl rfl  | exact Or.inr (Or.inl rfl)  | exact Or.inr (Or.inr rfl)) (by decide) (by decide)) (nomark _)) pa_nil (by rfl)) (by decide) (by decide) (by rfl) (by rfl)) (fun _ _ => rfl))) (by intro _; rfl)) (by rfl) (by rfl) (by rfl)) pa_nil (by rfl)) (by rfl))))))))))))), ?_⟩
      refine e_cut (fun σ' H' => σ' = [some (.str (rowS bs)), none, none, none, none, none, none] ∧ H' = H ∧ (0 : Int) ∈ bs ∧ (1 : Int) ∈ bs) ?_ ?_
      · walk_at "rd"
        rw [in_0 h01, in_1 h01]
        by_cases c0 : (0 : Int) ∈ bs
        · rw [decide_eq_true c0, if_neg (by decide)]
          by_cases c1 : (1 : Int) ∈ bs
          · rw [decide_eq_true c1, if_neg (by decide)]
            exact ⟨c0, c1⟩
          · rw [decide_eq_false c1, if_pos (by decide)]
            exact told_id (h0 (press_no0 fun x => c1 x.2))
        · rw [decide_eq_false c0, if_pos (by decide)]
          exact told_id (h0 (press_no0 fun x => c0 x.1))
      rintro σ H1 ⟨rfl, rfl, c0, c1⟩
      walk_at "rd"
      rw [in_11 h01]
      refine e_cut (fun σ' H' => ∃ s3, σ' = [some (.str (rowS (whole bs))), some (.int (flipI bs)), none, s3, none, none, none] ∧ Kp [] H1 H' ∧ Pl H') ?_ ?_
      · walk_at "rd"
        by_cases hh : has11 bs = true
        · have e2 : whole bs = flipL bs := if_pos hh
          have e1 : flipI bs = 1 := if_pos hh
          rw [if_pos hh, if_pos rfl]
          refine ⟨⟨_, rfl⟩, ?_⟩
          have hsz : (rowS bs).cps.size = bs.length := row_size h01
          refine lcB_str (fun D i H' => H' D = some (.lst (((flipL (bs.take i)).map fun b => (Str.ofString (toString b))).map V.str)) ∧ Kp [] H1 H' ∧ Pl H') (fun D hD => ⟨upd_same, (Kp.refl _ _).new hD, hpl.upd rfl⟩) ?_ ?_
          · rintro D i c H3 hD hc ⟨gD, k3, p3⟩
            obtain ⟨b, hbi, hb1, eb⟩ := row_sign h01 hc
            have hil : i < bs.length := (List.getElem?_eq_some_iff.mp hbi).1
            obtain ⟨d, hd, ed⟩ := other_bit hb1
            rw [eb]
            simp only [turnC, wipe, tYes, L2.start, tSeq, tAsg, tRet, tIfS, tNext, tDrop, tPar, tVar, tC, tOp, tUn, tCall, tCB, tCons, tNil, tTup, tLst, tTest, tNot, tTru, tAnd, tOr, tIf, tAndV, tOrV, tNotX, tB, tSl, tPart, tNoPart, tBX, tBX0, tChain, gName, gCons, gNil, gSub, rI_ii, rI0_ii, rU_i, ex_bl, ex_int, ex_some, ex_two, ex_cons, ex_str, ex_v, nil_and, e_add_ii, e_add_ss, e_add_rr, e_cat, e_mul_ii, e_mul_ri, e_rep, e_ix_s, e_ix_r, e_ixO_l, e_ixO_t, at_0, at_1, e_setX, e_setO_l, e_gTup, e_gTupO, e_len_s, e_len_r, e_lenO_l, e_lenO_t, e_lenO_d, e_abs, e_max, e_min, e_int_i, e_int_b, e_int_s, e_listO_l, e_listO_t, e_divmod, e_all, e_isi, e_eq_ii, e_eq_ss, e_eq_bb, e_ne_ii, e_ne_ss, e_ne_bb, e_tru_n, e_tru_b, e_tru_i, e_tru_s, e_tru_r, e_truO_l, e_truO_t, e_sl_s, e_sl_r, e_slO, e_app, e_appO, e_rev, e_revO, e_tyX_l, e_tyXO_l, e_tyX_s, e_iO_l, e_iO_t, e_upd_same, e_upd_ne, ne_eq, not_false_eq_true, e_isN_n, e_isN_i, e_isN_b, e_isN_s, e_isN_r, e_non, e_tyN_i, e_tyN_b, e_tyN_s, e_tyN_n, e_tyN_r, e_tyO_l, e_tyO_t, e_tyO_d, e_box_turn, e_box_cells, e_box_put, List.map_cons, List.map_nil, List.length_cons, List.length_nil, List.replicate, List.append_nil, List.nil_append, List.cons_append, List.getElem?_cons_zero, List.getElem?_cons_succ, List.set_cons_zero, List.set_cons_succ, Nat.reduceAdd, Nat.reduceSub, ite_t, ite_f, decide_eq_true_eq, reduceIte, true_and, and_true, Bool.not_true, Bool.not_false, m_bool, m_int, m_str, m_list, m_tuple, m_dict, isTab, String.reduceBEq, Bool.and_false, Bool.and_true, Bool.or_false, Bool.false_or, Bool.or_true, Bool.true_or, Bool.false_and, Bool.true_and, decide_true, decide_false, Bool.false_eq_true, reduceCtorEq, e_isi_lt, tAug, e_for, e_forR1, e_forR2, e_forR3, e_sortS, e_addT_ii, e_addT_ss, e_addT_rr, e_catT_l, e_catT_t, e_addW_ii, e_addW_ss, e_addW_rr, e_catW_l, e_catW_t, e_forZ, e_lc, e_lcR1, e_lcR2, e_lcZ, tRv, e_rv, tM1, e_join, e_spl, e_cnt, e_cntO, e_idx, tRaise, tTry, e_forEs, e_mulY_ii, e_mulY_ri, e_mulY_si, tTryS, tTryN, xAsg, xExp, xIf, e_forEl, e_stw, e_maxY_ii, e_maxY_r, e_minY_ii, e_minY_r, e_anyY, e_sumY, tLR1, tLR2, tPar3, ex_three, e_lcEs, e_strY_i, e_listY_r, e_listY_s, e_pop, e_popO, e_popAt, e_ext, e_clr, e_clrO, e_isB, e_isNB, e_lenS, e_lenSO, e_sc, at_2, at_3, e_cntS, tAsg2, e_other, e_lcEl, e_ins, e_insO, tAugS, e_getL, tChain3, tChain4, e_gLst, e_gLstO, tRvY, e_rvY_s, e_rvY_r, e_stp, tOrW, e_forZ3, e_sameW, tDDef, tDNewT, e_forEz, e_inS, e_ninS, tCBK]
            have hz : PySem.intText? (rowS [b]) = some b := by rw [row1_str hb1]; exact (int_bit hb1).1
            refine ⟨b, hz, by rw [row_size (by simpa using hb1)]; show 1 ≤ 640; decide, by decide, d, hd, _, gD, ?_, ?_, k3.upd (.inr hD), p3.upd rfl⟩
            · rw [List.length_map, List.length_map, flip_len, List.length_take]; exact Nat.lt_of_lt_of_le (show min i bs.length < 20001 by omega) (by decide)
            · have : (1 - b = 0 ∨ 1 - b = 1) := by omega
              rw [ed, row1_str this]
              unfold flipL; rw [take_snoc hbi, List.map_append, List.map_append, List.map_append]; rfl
          · rintro D H3 hD ⟨gD, k3, p3⟩
            rw [hsz, List.take_length] at gD
            refine ⟨_, gD, ?_, ?_⟩
            · rw [row_len _ (flip01 h01), List.length_map, flip_len]
              show bs.length + bs.length * 0 ≤ 16777216
              omega
            · exact ⟨_, by rw [e1, e2]; rfl, k3, p3⟩
        · have e2 : whole bs = bs := if_neg hh
          have e1 : flipI bs = 0 := if_neg hh
          rw [if_neg hh, if_neg (by decide)]
          exact ⟨_, by rw [e1, e2], Kp.refl _ _, hpl⟩
      · rintro σ H2 ⟨s3, rfl, k2, p2⟩
        have w01 := whole01 h01
        have wl := whole_len bs
        obtain ⟨W, hW⟩ : ∃ W, W = whole bs := ⟨_, rfl⟩
        rw [← hW] at w01 wl ⊢
        walk_at "rd"
        refine ⟨by decide, fun g ng => ?_⟩
        generalize hE : upd H2 g _ = H3
        have g3 := at_of hE; have k3 := kp_of hE ng; have p3 := pl_of hE p2 rfl; clear hE
        have hwz : (rowS W).cps.size = W.length := row_size w01
        refine forB_str (fun i σ H' => ∃ s3, σ = [some (.str (rowS W)), some (.int (flipI bs)), some (.ref g), s3, none, none, none] ∧ H' g = some (.lst ((gI (W.take i)).map V.int)) ∧ Kp [] H2 H' ∧ Pl H') ⟨_, rfl, g3, k3, p3⟩ ?_ ?_
        · rintro i c σ H4 hc ⟨s3, rfl, g4, k4, p4⟩
          obtain ⟨b, hbi, hb1, eb⟩ := row_sign w01 hc
          have hil : i < W.length := (List.getElem?_eq_some_iff.mp hbi).1
          rw [eb]
          simp only [L2.start, tSeq, tAsg, tRet, tIfS, tNext, tDrop, tPar, tVar, tC, tOp, tUn, tCall, tCB, tCons, tNil, tTup, tLst, tTest, tNot, tTru, tAnd, tOr, tIf, tAndV, tOrV, tNotX, tB, tSl, tPart, tNoPart, tBX, tBX0, tChain, gName, gCons, gNil, gSub, rI_ii, rI0_ii, rU_i, ex_bl, ex_int, ex_some, ex_two, ex_cons, ex_str, ex_v, nil_and, e_add_ii, e_add_ss, e_add_rr, e_cat, e_mul_ii, e_mul_ri, e_rep, e_ix_s, e_ix_r, e_ixO_l, e_ixO_t, at_0, at_1, e_setX, e_setO_l, e_gTup, e_gTupO, e_len_s, e_len_r, e_lenO_l, e_lenO_t, e_lenO_d, e_abs, e_max, e_min, e_int_i, e_int_b, e_int_s, e_listO_l, e_listO_t, e_divmod, e_all, e_isi, e_eq_ii, e_eq_ss, e_eq_bb, e_ne_ii, e_ne_ss, e_ne_bb, e_tru_n, e_tru_b, e_tru_i, e_tru_s, e_tru_r, e_truO_l, e_truO_t, e_sl_s, e_sl_r, e_slO, e_app, e_appO, e_rev, e_revO, e_tyX_l, e_tyXO_l, e_tyX_s, e_iO_l, e_iO_t, e_upd_same, e_upd_ne, ne_eq, not_false_eq_true, e_isN_n, e_isN_i, e_isN_b, e_isN_s, e_isN_r, e_non, e_tyN_i, e_tyN_b, e_tyN_s, e_tyN_n, e_tyN_r, e_tyO_l, e_tyO_t, e_tyO_d, e_box_turn, e_box_cells, e_box_put, List.map_cons, List.map_nil, List.length_cons, List.length_nil, List.replicate, List.append_nil, List.nil_append, List.cons_append, List.getElem?_cons_zero, List.getElem?_cons_succ, List.set_cons_zero, List.set_cons_succ, Nat.reduceAdd, Nat.reduceSub, ite_t, ite_f, decide_eq_true_eq, reduceIte, true_and, and_true, Bool.not_true, Bool.not_false, m_bool, m_int, m_str, m_list, m_tuple, m_dict, isTab, String.reduceBEq, Bool.and_false, Bool.and_true, Bool.or_false, Bool.false_or, Bool.or_true, Bool.true_or, Bool.false_and, Bool.true_and, decide_true, decide_false, Bool.false_eq_true, reduceCtorEq, e_isi_lt, tAug, e_for, e_forR1, e_forR2, e_forR3, e_sortS, e_addT_ii, e_addT_ss, e_addT_rr, e_catT_l, e_catT_t, e_addW_ii, e_addW_ss, e_addW_rr, e_catW_l, e_catW_t, e_forZ, e_lc, e_lcR1, e_lcR2, e_lcZ, tRv, e_rv, tM1, e_join, e_spl, e_cnt, e_cntO, e_idx, tRaise, tTry, e_forEs, e_mulY_ii, e_mulY_ri, e_mulY_si, tTryS, tTryN, xAsg, xExp, xIf, e_forEl, e_stw, e_maxY_ii, e_maxY_r, e_minY_ii, e_minY_r, e_anyY, e_sumY, tLR1, tLR2, tPar3, ex_three, e_lcEs, e_strY_i, e_listY_r, e_listY_s, e_pop, e_popO, e_popAt, e_ext, e_clr, e_clrO, e_isB, e_isNB, e_lenS, e_lenSO, e_sc, at_2, at_3, e_cntS, tAsg2, e_other, e_lcEl, e_ins, e_insO, tAugS, e_getL, tChain3, tChain4, e_gLst, e_gLstO, tRvY, e_rvY_s, e_rvY_r, e_stp, tOrW, e_forZ3, e_sameW, tDDef, tDNewT, e_forEz, e_inS, e_ninS, tCBK, g4]
          have hgl : (gI (W.take i)).length ≤ 20001 := by
            have a := gI_len (bs := W.take i) (take01 w01)
            have b := sum01 (bs := W.take i) (take01 w01)
            have : (W.take i).length ≤ W.length := by rw [List.length_take]; omega
            omega
          have hne := gI_ne (W.take i)
          rcases hb1 with rfl | rfl
          · rw [if_neg (by decide)]
            refine ⟨_, at_last (by rw [List.getLast?_map, lastD_at hne]; rfl), ?_⟩
            simp only [L2.start, tSeq, tAsg, tRet, tIfS, tNext, tDrop, tPar, tVar, tC, tOp, tUn, tCall, tCB, tCons, tNil, tTup, tLst, tTest, tNot, tTru, tAnd, tOr, tIf, tAndV, tOrV, tNotX, tB, tSl, tPart, tNoPart, tBX, tBX0, tChain, gName, gCons, gNil, gSub, rI_ii, rI0_ii, rU_i, ex_bl, ex_int, ex_some, ex_two, ex_cons, ex_str, ex_v, nil_and, e_add_ii, e_add_ss, e_add_rr, e_cat, e_mul_ii, e_mul_ri, e_rep, e_ix_s, e_ix_r, e_ixO_l, e_ixO_t, at_0, at_1, e_setX, e_setO_l, e_gTup, e_gTupO, e_len_s, e_len_r, e_lenO_l, e_lenO_t, e_lenO_d, e_abs, e_max, e_min, e_int_i, e_int_b, e_int_s, e_listO_l, e_listO_t, e_divmod, e_all, e_isi, e_eq_ii, e_eq_ss, e_eq_bb, e_ne_ii, e_ne_ss, e_ne_bb, e_tru_n, e_tru_b, e_tru_i, e_tru_s, e_tru_r, e_truO_l, e_truO_t, e_sl_s, e_sl_r, e_slO, e_app, e_appO, e_rev, e_revO, e_tyX_l, e_tyXO_l, e_tyX_s, e_iO_l, e_iO_t, e_upd_same, e_upd_ne, ne_eq, not_false_eq_true, e_isN_n, e_isN_i, e_isN_b, e_isN_s, e_isN_r, e_non, e_tyN_i, e_tyN_b, e_tyN_s, e_tyN_n, e_tyN_r, e_tyO_l, e_tyO_t, e_tyO_d, e_box_turn, e_box_cells, e_box_put, List.map_cons, List.map_nil, List.length_cons, List.length_nil, List.replicate, List.append_nil, List.nil_append, List.cons_append, List.getElem?_cons_zero, List.getElem?_cons_succ, List.set_cons_zero, List.set_cons_succ, Nat.reduceAdd, Nat.reduceSub, ite_t, ite_f, decide_eq_true_eq, reduceIte, true_and, and_true, Bool.not_true, Bool.not_false, m_bool, m_int, m_str, m_list, m_tuple, m_dict, isTab, String.reduceBEq, Bool.and_false, Bool.and_true, Bool.or_false, Bool.false_or, Bool.or_true, Bool.true_or, Bool.false_and, Bool.true_and, decide_true, decide_false, Bool.false_eq_true, reduceCtorEq, e_isi_lt, tAug, e_for, e_forR1, e_forR2, e_forR3, e_sortS, e_addT_ii, e_addT_ss, e_addT_rr, e_catT_l, e_catT_t, e_addW_ii, e_addW_ss, e_addW_rr, e_catW_l, e_catW_t, e_forZ, e_lc, e_lcR1, e_lcR2, e_lcZ, tRv, e_rv, tM1, e_join, e_spl, e_cnt, e_cntO, e_idx, tRaise, tTry, e_forEs, e_mulY_ii, e_mulY_ri, e_mulY_si, tTryS, tTryN, xAsg, xExp, xIf, e_forEl, e_stw, e_maxY_ii, e_maxY_r, e_minY_ii, e_minY_r, e_anyY, e_sumY, tLR1, tLR2, tPar3, ex_three, e_lcEs, e_strY_i, e_listY_r, e_listY_s, e_pop, e_popO, e_popAt, e_ext, e_clr, e_clrO, e_isB, e_isNB, e_lenS, e_lenSO, e_sc, at_2, at_3, e_cntS, tAsg2, e_other, e_lcEl, e_ins, e_insO, tAugS, e_getL, tChain3, tChain4, e_gLst, e_gLstO, tRvY, e_rvY_s, e_rvY_r, e_stp, tOrW, e_forZ3, e_sameW, tDDef, tDNewT, e_forEz, e_inS, e_ninS, tCBK, g4]
            refine ⟨_, ixN_last (by rw [List.length_map]; exact List.length_pos_iff.mpr hne), _, rfl, ?_, k4.upd (.inr ng), p4.upd rfl⟩
            rw [set_last (by simpa using hne), take_snoc hbi, gI_snoc, if_neg (by decide), List.map_append, List.map_dropLast]; rfl
          · rw [if_pos (by decide)]
            refine ⟨by rw [List.length_map]; exact Nat.lt_of_le_of_lt hgl (by decide), _, rfl, ?_, k4.upd (.inr ng), p4.upd rfl⟩
            rw [take_snoc hbi, gI_snoc, if_pos rfl, List.map_append]; rfl
        · rintro σ H4 ⟨s3, rfl, g4, k4, p4⟩
          rw [hwz, List.take_length] at g4
          walk_at "rd"
          simp only [L2.start, tSeq, tAsg, tRet, tIfS, tNext, tDrop, tPar, tVar, tC, tOp, tUn, tCall, tCB, tCons, tNil, tTup, tLst, tTest, tNot, tTru, tAnd, tOr, tIf, tAndV, tOrV, tNotX, tB, tSl, tPart, tNoPart, tBX, tBX0, tChain, gName, gCons, gNil, gSub, rI_ii, rI0_ii, rU_i, ex_bl, ex_int, ex_some, ex_two, ex_cons, ex_str, ex_v, nil_and, e_add_ii, e_add_ss, e_add_rr, e_cat, e_mul_ii, e_mul_ri, e_rep, e_ix_s, e_ix_r, e_ixO_l, e_ixO_t, at_0, at_1, e_setX, e_setO_l, e_gTup, e_gTupO, e_len_s, e_len_r, e_lenO_l, e_lenO_t, e_lenO_d, e_abs, e_max, e_min, e_int_i, e_int_b, e_int_s, e_listO_l, e_listO_t, e_divmod, e_all, e_isi, e_eq_ii, e_eq_ss, e_eq_bb, e_ne_ii, e_ne_ss, e_ne_bb, e_tru_n, e_tru_b, e_tru_i, e_tru_s, e_tru_r, e_truO_l, e_truO_t, e_sl_s, e_sl_r, e_slO, e_app, e_appO, e_rev, e_revO, e_tyX_l, e_tyXO_l, e_tyX_s, e_iO_l, e_iO_t, e_upd_same, e_upd_ne, ne_eq, not_false_eq_true, e_isN_n, e_isN_i, e_isN_b, e_isN_s, e_isN_r, e_non, e_tyN_i, e_tyN_b, e_tyN_s, e_tyN_n, e_tyN_r, e_tyO_l, e_tyO_t, e_tyO_d, e_box_turn, e_box_cells, e_box_put, List.map_cons, List.map_nil, List.length_cons, List.length_nil, List.replicate, List.append_nil, List.nil_append, List.cons_append, List.getElem?_cons_zero, List.getElem?_cons_succ, List.set_cons_zero, List.set_cons_succ, Nat.reduceAdd, Nat.reduceSub, ite_t, ite_f, decide_eq_true_eq, reduceIte, true_and, and_true, Bool.not_true, Bool.not_false, m_bool, m_int, m_str, m_list, m_tuple, m_dict, isTab, String.reduceBEq, Bool.and_false, Bool.and_true, Bool.or_false, Bool.false_or, Bool.or_true, Bool.true_or, Bool.false_and, Bool.true_and, decide_true, decide_false, Bool.false_eq_true, reduceCtorEq, e_isi_lt, tAug, e_for, e_forR1, e_forR2, e_forR3, e_sortS, e_addT_ii, e_addT_ss, e_addT_rr, e_catT_l, e_catT_t, e_addW_ii, e_addW_ss, e_addW_rr, e_catW_l, e_catW_t, e_forZ, e_lc, e_lcR1, e_lcR2, e_lcZ, tRv, e_rv, tM1, e_join, e_spl, e_cnt, e_cntO, e_idx, tRaise, tTry, e_forEs, e_mulY_ii, e_mulY_ri, e_mulY_si, tTryS, tTryN, xAsg, xExp, xIf, e_forEl, e_stw, e_maxY_ii, e_maxY_r, e_minY_ii, e_minY_r, e_anyY, e_sumY, tLR1, tLR2, tPar3, ex_three, e_lcEs, e_strY_i, e_listY_r, e_listY_s, e_pop, e_popO, e_popAt, e_ext, e_clr, e_clrO, e_isB, e_isNB, e_lenS, e_lenSO, e_sc, at_2, at_3, e_cntS, tAsg2, e_other, e_lcEl, e_ins, e_insO, tAugS, e_getL, tChain3, tChain4, e_gLst, e_gLstO, tRvY, e_rvY_s, e_rvY_r, e_stp, tOrW, e_forZ3, e_sameW, tDDef, tDNewT, e_forEz, e_inS, e_ninS, tCBK, g4, cutV_inner, mid_ints]
          refine fun q nq => ?_
          generalize hE : upd H4 q _ = H5
          have g5 := at_of hE; have k5 := kp_of hE nq; have p5 := pl_of hE p4 rfl; have gg5 := k5.at' g4; clear hE
          generalize hM : midL (gI W) = m at g5
          have k15 := (k2.trans k4).trans k5
          have hgl : (gI W).length ≤ 20001 := by
            have a := gI_len w01
            have b := sum01 w01
            omega
          have hml : m.length ≤ 20000 := by rw [← hM, mid_len]; omega
          refine e_cut (fun σ' H' => σ' = [some (.str (rowS W)), some (.int (flipI bs)), some (.ref g), s3, some (.ref q), none, none] ∧ Kp [] H5 H' ∧ Pl H' ∧ ¬ has11 W = true ∧ ¬ hi0 m > lo0 m + 1) ?_ ?_
          · walk_at "rd"
            rw [in_11 w01]
            by_cases c2 : has11 W = true
            · rw [if_pos c2]
              exact told_pure p5 k15 (h0 (press_no1 (by rw [← hW]; exact c2)))
            · rw [if_neg c2]
              refine ⟨by decide, fun r nr => ?_⟩
              generalize hE : upd H5 r _ = H6
              have g6 : H6 r = some (.lst (([] : List Int).map V.int)) := at_of hE
              have k6 := kp_of hE nr; have p6 := pl_of hE p5 rfl; have gq6 := k6.at' g5; clear hE
              refine ne_ints gq6 g6 ?_
              simp only [L2.start, tSeq, tAsg, tRet, tIfS, tNext, tDrop, tPar, tVar, tC, tOp, tUn, tCall, tCB, tCons, tNil, tTup, tLst, tTest, tNot, tTru, tAnd, tOr, tIf, tAndV, tOrV, tNotX, tB, tSl, tPart, tNoPart, tBX, tBX0, tChain, gName, gCons, gNil, gSub, rI_ii, rI0_ii, rU_i, ex_bl, ex_int, ex_some, ex_two, ex_cons, ex_str, ex_v, nil_and, e_add_ii, e_add_ss, e_add_rr, e_cat, e_mul_ii, e_mul_ri, e_rep, e_ix_s, e_ix_r, e_ixO_l, e_ixO_t, at_0, at_1, e_setX, e_setO_l, e_gTup, e_gTupO, e_len_s, e_len_r, e_lenO_l, e_lenO_t, e_lenO_d, e_abs, e_max, e_min, e_int_i, e_int_b, e_int_s, e_listO_l, e_listO_t, e_divmod, e_all, e_isi, e_eq_ii, e_eq_ss, e_eq_bb, e_ne_ii, e_ne_ss, e_ne_bb, e_tru_n, e_tru_b, e_tru_i, e_tru_s, e_tru_r, e_truO_l, e_truO_t, e_sl_s, e_sl_r, e_slO, e_app, e_appO, e_rev, e_revO, e_tyX_l, e_tyXO_l, e_tyX_s, e_iO_l, e_iO_t, e_upd_same, e_upd_ne, ne_eq, not_false_eq_true, e_isN_n, e_isN_i, e_isN_b, e_isN_s, e_isN_r, e_non, e_tyN_i, e_tyN_b, e_tyN_s, e_tyN_n, e_tyN_r, e_tyO_l, e_tyO_t, e_tyO_d, e_box_turn, e_box_cells, e_box_put, List.map_cons, List.map_nil, List.length_cons, List.length_nil, List.replicate, List.append_nil, List.nil_append, List.cons_append, List.getElem?_cons_zero, List.getElem?_cons_succ, List.set_cons_zero, List.set_cons_succ, Nat.reduceAdd, Nat.reduceSub, ite_t, ite_f, decide_eq_true_eq, reduceIte, true_and, and_true, Bool.not_true, Bool.not_false, m_bool, m_int, m_str, m_list, m_tuple, m_dict, isTab, String.reduceBEq, Bool.and_false, Bool.and_true, Bool.or_false, Bool.false_or, Bool.or_true, Bool.true_or, Bool.false_and, Bool.true_and, decide_true, decide_false, Bool.false_eq_true, reduceCtorEq, e_isi_lt, tAug, e_for, e_forR1, e_forR2, e_forR3, e_sortS, e_addT_ii, e_addT_ss, e_addT_rr, e_catT_l, e_catT_t, e_addW_ii, e_addW_ss, e_addW_rr, e_catW_l, e_catW_t, e_forZ, e_lc, e_lcR1, e_lcR2, e_lcZ, tRv, e_rv, tM1, e_join, e_spl, e_cnt, e_cntO, e_idx, tRaise, tTry, e_forEs, e_mulY_ii, e_mulY_ri, e_mulY_si, tTryS, tTryN, xAsg, xExp, xIf, e_forEl, e_stw, e_maxY_ii, e_maxY_r, e_minY_ii, e_minY_r, e_anyY, e_sumY, tLR1, tLR2, tPar3, ex_three, e_lcEs, e_strY_i, e_listY_r, e_listY_s, e_pop, e_popO, e_popAt, e_ext, e_clr, e_clrO, e_isB, e_isNB, e_lenS, e_lenSO, e_sc, at_2, at_3, e_cntS, tAsg2, e_other, e_lcEl, e_ins, e_insO, tAugS, e_getL, tChain3, tChain4, e_gLst, e_gLstO, tRvY, e_rvY_s, e_rvY_r, e_stp, tOrW, e_forZ3, e_sameW, tDDef, tDNewT, e_forEz, e_inS, e_ninS, tCBK]
              by_cases hm0 : m = []
              · rw [decide_eq_true hm0, if_neg (by decide)]
                exact ⟨k6, p6, c2, by rw [hm0]; decide⟩
              · rw [decide_eq_false hm0, if_pos (by decide)]
                refine ⟨m, gq6, List.length_pos_iff.mpr hm0, fun x hx1 hx2 => ⟨m, gq6, List.length_pos_iff.mpr hm0, fun y hy1 hy2 => ?_⟩⟩
                rw [hi0_of hx1 hx2, lo0_of hy1 hy2]
                by_cases c3 : hi0 m > lo0 m + 1
                · rw [if_pos (by omega)]
                  exact told_pure p6 (k15.trans k6) (h0 (press_no2 (by rw [← hW, hM]; exact c3)))
                · rw [if_neg (by omega)]
                  exact ⟨k6, p6, c2, c3⟩
          rintro σ H6 ⟨rfl, k6, p6, c2, c3⟩
          have hsome := press_some ⟨c0, c1⟩ (by rw [← hW]; exact c2) (by rw [← hW, hM]; exact c3)
          rw [← hW, hM] at hsome
          have g6 := k6 q _ (by simp) g5
          have gg6 := k6 g _ (by simp) gg5
          refine e_cut (fun σ' H' => σ' = [some (.str (rowS W)), some (.int (flipI bs)), some (.ref g), s3, some (.ref q), some (.int (lo0 m)), none] ∧ Kp [] H6 H' ∧ Pl H') ?_ ?_
          · walk_at "rd"
            refine ⟨by decide, fun r nr => ?_⟩
            generalize hE : upd H6 r _ = H7
            have g7 : H7 r = some (.lst (([] : List Int).map V.int)) := at_of hE
            have k7 := kp_of hE nr; have p7 := pl_of hE p6 rfl; have gq7 := k7.at' g6; clear hE
            refine ne_ints gq7 g7 ?_
            simp only [L2.start, tSeq, tAsg, tRet, tIfS, tNext, tDrop, tPar, tVar, tC, tOp, tUn, tCall, tCB, tCons, tNil, tTup, tLst, tTest, tNot, tTru, tAnd, tOr, tIf, tAndV, tOrV, tNotX, tB, tSl, tPart, tNoPart, tBX, tBX0, tChain, gName, gCons, gNil, gSub, rI_ii, rI0_ii, rU_i, ex_bl, ex_int, ex_some, ex_two, ex_cons, ex_str, ex_v, nil_and, e_add_ii, e_add_ss, e_add_rr, e_cat, e_mul_ii, e_mul_ri, e_rep, e_ix_s, e_ix_r, e_ixO_l, e_ixO_t, at_0, at_1, e_setX, e_setO_l, e_gTup, e_gTupO, e_len_s, e_len_r, e_lenO_l, e_lenO_t, e_lenO_d, e_abs, e_max, e_min, e_int_i, e_int_b, e_int_s, e_listO_l, e_listO_t, e_divmod, e_all, e_isi, e_eq_ii, e_eq_ss, e_eq_bb, e_ne_ii, e_ne_ss, e_ne_bb, e_tru_n, e_tru_b, e_tru_i, e_tru_s, e_tru_r, e_truO_l, e_truO_t, e_sl_s, e_sl_r, e_slO, e_app, e_appO, e_rev, e_revO, e_tyX_l, e_tyXO_l, e_tyX_s, e_iO_l, e_iO_t, e_upd_same, e_upd_ne, ne_eq, not_false_eq_true, e_isN_n, e_isN_i, e_isN_b, e_isN_s, e_isN_r, e_non, e_tyN_i, e_tyN_b, e_tyN_s, e_tyN_n, e_tyN_r, e_tyO_l, e_tyO_t, e_tyO_d, e_box_turn, e_box_cells, e_box_put, List.map_cons, List.map_nil, List.length_cons, List.length_nil, List.replicate, List.append_nil, List.nil_append, List.cons_append, List.getElem?_cons_zero, List.getElem?_cons_succ, List.set_cons_zero, List.set_cons_succ, Nat.reduceAdd, Nat.reduceSub, ite_t, ite_f, decide_eq_true_eq, reduceIte, true_and, and_true, Bool.not_true, Bool.not_false, m_bool, m_int, m_str, m_list, m_tuple, m_dict, isTab, String.reduceBEq, Bool.and_false, Bool.and_true, Bool.or_false, Bool.false_or, Bool.or_true, Bool.true_or, Bool.false_and, Bool.true_and, decide_true, decide_false, Bool.false_eq_true, reduceCtorEq, e_isi_lt, tAug, e_for, e_forR1, e_forR2, e_forR3, e_sortS, e_addT_ii, e_addT_ss, e_addT_rr, e_catT_l, e_catT_t, e_addW_ii, e_addW_ss, e_addW_rr, e_catW_l, e_catW_t, e_forZ, e_lc, e_lcR1, e_lcR2, e_lcZ, tRv, e_rv, tM1, e_join, e_spl, e_cnt, e_cntO, e_idx, tRaise, tTry, e_forEs, e_mulY_ii, e_mulY_ri, e_mulY_si, tTryS, tTryN, xAsg, xExp, xIf, e_forEl, e_stw, e_maxY_ii, e_maxY_r, e_minY_ii, e_minY_r, e_anyY, e_sumY, tLR1, tLR2, tPar3, ex_three, e_lcEs, e_strY_i, e_listY_r, e_listY_s, e_pop, e_popO, e_popAt, e_ext, e_clr, e_clrO, e_isB, e_isNB, e_lenS, e_lenSO, e_sc, at_2, at_3, e_cntS, tAsg2, e_other, e_lcEl, e_ins, e_insO, tAugS, e_getL, tChain3, tChain4, e_gLst, e_gLstO, tRvY, e_rvY_s, e_rvY_r, e_stp, tOrW, e_forZ3, e_sameW, tDDef, tDNewT, e_forEz, e_inS, e_ninS, tCBK]
            by_cases hm0 : m = []
            · rw [decide_eq_true hm0, if_neg (by decide)]
              exact ⟨by rw [hm0]; rfl, k7, p7⟩
            · rw [decide_eq_false hm0, if_pos (by decide)]
              exact ⟨m, gq7, List.length_pos_iff.mpr hm0, fun y hy1 hy2 => ⟨by rw [lo0_of hy1 hy2], k7, p7⟩⟩
          rintro σ H7 ⟨rfl, k7, p7⟩
          have g7 := k7 q _ (by simp) g6
          have gg7 := k7 g _ (by simp) gg6
          walk_at "rd"
          simp only [L2.start, tSeq, tAsg, tRet, tIfS, tNext, tDrop, tPar, tVar, tC, tOp, tUn, tCall, tCB, tCons, tNil, tTup, tLst, tTest, tNot, tTru, tAnd, tOr, tIf, tAndV, tOrV, tNotX, tB, tSl, tPart, tNoPart, tBX, tBX0, tChain, gName, gCons, gNil, gSub, rI_ii, rI0_ii, rU_i, ex_bl, ex_int, ex_some, ex_two, ex_cons, ex_str, ex_v, nil_and, e_add_ii, e_add_ss, e_add_rr, e_cat, e_mul_ii, e_mul_ri, e_rep, e_ix_s, e_ix_r, e_ixO_l, e_ixO_t, at_0, at_1, e_setX, e_setO_l, e_gTup, e_gTupO, e_len_s, e_len_r, e_lenO_l, e_lenO_t, e_lenO_d, e_abs, e_max, e_min, e_int_i, e_int_b, e_int_s, e_listO_l, e_listO_t, e_divmod, e_all, e_isi, e_eq_ii, e_eq_ss, e_eq_bb, e_ne_ii, e_ne_ss, e_ne_bb, e_tru_n, e_tru_b, e_tru_i, e_tru_s, e_tru_r, e_truO_l, e_truO_t, e_sl_s, e_sl_r, e_slO, e_app, e_appO, e_rev, e_revO, e_tyX_l, e_tyXO_l, e_tyX_s, e_iO_l, e_iO_t, e_upd_same, e_upd_ne, ne_eq, not_false_eq_true, e_isN_n, e_isN_i, e_isN_b, e_isN_s, e_isN_r, e_non, e_tyN_i, e_tyN_b, e_tyN_s, e_tyN_n, e_tyN_r, e_tyO_l, e_tyO_t, e_tyO_d, e_box_turn, e_box_cells, e_box_put, List.map_cons, List.map_nil, List.length_cons, List.length_nil, List.replicate, List.append_nil, List.nil_append, List.cons_append, List.getElem?_cons_zero, List.getElem?_cons_succ, List.set_cons_zero, List.set_cons_succ, Nat.reduceAdd, Nat.reduceSub, ite_t, ite_f, decide_eq_true_eq, reduceIte, true_and, and_true, Bool.not_true, Bool.not_false, m_bool, m_int, m_str, m_list, m_tuple, m_dict, isTab, String.reduceBEq, Bool.and_false, Bool.and_true, Bool.or_false, Bool.false_or, Bool.or_true, Bool.true_or, Bool.false_and, Bool.true_and, decide_true, decide_false, Bool.false_eq_true, reduceCtorEq, e_isi_lt, tAug, e_for, e_forR1, e_forR2, e_forR3, e_sortS, e_addT_ii, e_addT_ss, e_addT_rr, e_catT_l, e_catT_t, e_addW_ii, e_addW_ss, e_addW_rr, e_catW_l, e_catW_t, e_forZ, e_lc, e_lcR1, e_lcR2, e_lcZ, tRv, e_rv, tM1, e_join, e_spl, e_cnt, e_cntO, e_idx, tRaise, tTry, e_forEs, e_mulY_ii, e_mulY_ri, e_mulY_si, tTryS, tTryN, xAsg, xExp, xIf, e_forEl, e_stw, e_maxY_ii, e_maxY_r, e_minY_ii, e_minY_r, e_anyY, e_sumY, tLR1, tLR2, tPar3, ex_three, e_lcEs, e_strY_i, e_listY_r, e_listY_s, e_pop, e_popO, e_popAt, e_ext, e_clr, e_clrO, e_isB, e_isNB, e_lenS, e_lenSO, e_sc, at_2, at_3, e_cntS, tAsg2, e_other, e_lcEl, e_ins, e_insO, tAugS, e_getL, tChain3, tChain4, e_gLst, e_gLstO, tRvY, e_rvY_s, e_rvY_r, e_stp, tOrW, e_forZ3, e_sameW, tDDef, tDNewT, e_forEz, e_inS, e_ninS, tCBK, gg7]
          refine ⟨_, at_in (by omega) (by rw [List.getElem?_map, show ((0 : Int)).toNat = 0 from rfl, headD_at (gI_ne W)]; rfl), _, at_last (by rw [List.getLast?_map, lastD_at (gI_ne W)]; rfl), by decide, fun t nt => ?_⟩
          generalize hE : upd H7 t _ = H8
          have g8 := at_of hE; have k8 := kp_of hE nt; have p8 := pl_of hE p7 rfl; have gq8 := k8.at' g7; clear hE
          refine ⟨⟨_, rfl⟩, ?_⟩
          refine lcB_list gq8 (fun R i H' => H' R = some (.lst ((((innerL m).take i).map fun b => (Str.ofString (toString b))).map V.str)) ∧ Kp [] H8 H' ∧ Pl H') (fun R hR => ⟨upd_same, (Kp.refl _ _).new hR, p8.upd rfl⟩) (fun R i H' _ hP => hP.2.1 q _ (by simp) gq8) ?_ ?_
          · rintro R i x H' hR hx ⟨gR, kR, pR⟩
            obtain ⟨y, rfl, hy⟩ := int_at hx
            simp only [turnC, wipe, tYes, L2.start, tSeq, tAsg, tRet, tIfS, tNext, tDrop, tPar, tVar, tC, tOp, tUn, tCall, tCB, tCons, tNil, tTup, tLst, tTest, tNot, tTru, tAnd, tOr, tIf, tAndV, tOrV, tNotX, tB, tSl, tPart, tNoPart, tBX, tBX0, tChain, gName, gCons, gNil, gSub, rI_ii, rI0_ii, rU_i, ex_bl, ex_int, ex_some, ex_two, ex_cons, ex_str, ex_v, nil_and, e_add_ii, e_add_ss, e_add_rr, e_cat, e_mul_ii, e_mul_ri, e_rep, e_ix_s, e_ix_r, e_ixO_l, e_ixO_t, at_0, at_1, e_setX, e_setO_l, e_gTup, e_gTupO, e_len_s, e_len_r, e_lenO_l, e_lenO_t, e_lenO_d, e_abs, e_max, e_min, e_int_i, e_int_b, e_int_s, e_listO_l, e_listO_t, e_divmod, e_all, e_isi, e_eq_ii, e_eq_ss, e_eq_bb, e_ne_ii, e_ne_ss, e_ne_bb, e_tru_n, e_tru_b, e_tru_i, e_tru_s, e_tru_r, e_truO_l, e_truO_t, e_sl_s, e_sl_r, e_slO, e_app, e_appO, e_rev, e_revO, e_tyX_l, e_tyXO_l, e_tyX_s, e_iO_l, e_iO_t, e_upd_same, e_upd_ne, ne_eq, not_false_eq_true, e_isN_n, e_isN_i, e_isN_b, e_isN_s, e_isN_r, e_non, e_tyN_i, e_tyN_b, e_tyN_s, e_tyN_n, e_tyN_r, e_tyO_l, e_tyO_t, e_tyO_d, e_box_turn, e_box_cells, e_box_put, List.map_cons, List.map_nil, List.length_cons, List.length_nil, List.replicate, List.append_nil, List.nil_append, List.cons_append, List.getElem?_cons_zero, List.getElem?_cons_succ, List.set_cons_zero, List.set_cons_succ, Nat.reduceAdd, Nat.reduceSub, ite_t, ite_f, decide_eq_true_eq, reduceIte, true_and, and_true, Bool.not_true, Bool.not_false, m_bool, m_int, m_str, m_list, m_tuple, m_dict, isTab, String.reduceBEq, Bool.and_false, Bool.and_true, Bool.or_false, Bool.false_or, Bool.or_true, Bool.true_or, Bool.false_and, Bool.true_and, decide_true, decide_false, Bool.false_eq_true, reduceCtorEq, e_isi_lt, tAug, e_for, e_forR1, e_forR2, e_forR3, e_sortS, e_addT_ii, e_addT_ss, e_addT_rr, e_catT_l, e_catT_t, e_addW_ii, e_addW_ss, e_addW_rr, e_catW_l, e_catW_t, e_forZ, e_lc, e_lcR1, e_lcR2, e_lcZ, tRv, e_rv, tM1, e_join, e_spl, e_cnt, e_cntO, e_idx, tRaise, tTry, e_forEs, e_mulY_ii, e_mulY_ri, e_mulY_si, tTryS, tTryN, xAsg, xExp, xIf, e_forEl, e_stw, e_maxY_ii, e_maxY_r, e_minY_ii, e_minY_r, e_anyY, e_sumY, tLR1, tLR2, tPar3, ex_three, e_lcEs, e_strY_i, e_listY_r, e_listY_s, e_pop, e_popO, e_popAt, e_ext, e_clr, e_clrO, e_isB, e_isNB, e_lenS, e_lenSO, e_sc, at_2, at_3, e_cntS, tAsg2, e_other, e_lcEl, e_ins, e_insO, tAugS, e_getL, tChain3, tChain4, e_gLst, e_gLstO, tRvY, e_rvY_s, e_rvY_r, e_stp, tOrW, e_forZ3, e_sameW, tDDef, tDNewT, e_forEz, e_inS, e_ninS, tCBK]
            have hiy : (innerL m)[i]? = some (if y = lo0 m then 0 else 1) := by unfold innerL; rw [List.getElem?_map, hy]; rfl
            have hil : i < m.length := (List.getElem?_eq_some_iff.mp hy).1
            have hlen : ((((innerL m).take i).map fun b => (Str.ofString (toString b))).map V.str).length < sizeLine := by rw [List.length_map, List.length_map, List.length_take]; exact Nat.lt_of_le_of_lt (show min i _ ≤ 20000 by omega) (by decide)
            have hle := lo0_le (List.mem_of_getElem? hy)
            have hd2 : (if lo0 m < y then (1 : Int) else 0) = if y = lo0 m then 0 else 1 := by
              by_cases e : y = lo0 m
              · rw [if_pos e, if_neg (by omega)]
              · rw [if_neg e, if_pos (by omega)]
            rw [hd2]
            have hd01 : (if y = lo0 m then (0 : Int) else 1) = 0 ∨ (if y = lo0 m then (0 : Int) else 1) = 1 := by split <;> simp
            obtain ⟨d, hd, ed⟩ := zo_at (d := if y = lo0 m then (0 : Int) else 1) (by omega) (by omega)
            exact ⟨by decide, d, hd, _, gR, hlen, by rw [ed, row1_str hd01, take_snoc hiy, List.map_append, List.map_append]; rfl, kR.upd (.inr hR), pR.upd rfl⟩
          · rintro R H' hR ⟨gR, kR, pR⟩
            rw [List.length_map, show m.length = (innerL m).length by unfold innerL; rw [List.length_map], List.take_length] at gR
            simp only [L2.start, tSeq, tAsg, tRet, tIfS, tNext, tDrop, tPar, tVar, tC, tOp, tUn, tCall, tCB, tCons, tNil, tTup, tLst, tTest, tNot, tTru, tAnd, tOr, tIf, tAndV, tOrV, tNotX, tB, tSl, tPart, tNoPart, tBX, tBX0, tChain, gName, gCons, gNil, gSub, rI_ii, rI0_ii, rU_i, ex_bl, ex_int, ex_some, ex_two, ex_cons, ex_str, ex_v, nil_and, e_add_ii, e_add_ss, e_add_rr, e_cat, e_mul_ii, e_mul_ri, e_rep, e_ix_s, e_ix_r, e_ixO_l, e_ixO_t, at_0, at_1, e_setX, e_setO_l, e_gTup, e_gTupO, e_len_s, e_len_r, e_lenO_l, e_lenO_t, e_lenO_d, e_abs, e_max, e_min, e_int_i, e_int_b, e_int_s, e_listO_l, e_listO_t, e_divmod, e_all, e_isi, e_eq_ii, e_eq_ss, e_eq_bb, e_ne_ii, e_ne_ss, e_ne_bb, e_tru_n, e_tru_b, e_tru_i, e_tru_s, e_tru_r, e_truO_l, e_truO_t, e_sl_s, e_sl_r, e_slO, e_app, e_appO, e_rev, e_revO, e_tyX_l, e_tyXO_l, e_tyX_s, e_iO_l, e_iO_t, e_upd_same, e_upd_ne, ne_eq, not_false_eq_true, e_isN_n, e_isN_i, e_isN_b, e_isN_s, e_isN_r, e_non, e_tyN_i, e_tyN_b, e_tyN_s, e_tyN_n, e_tyN_r, e_tyO_l, e_tyO_t, e_tyO_d, e_box_turn, e_box_cells, e_box_put, List.map_cons, List.map_nil, List.length_cons, List.length_nil, List.replicate, List.append_nil, List.nil_append, List.cons_append, List.getElem?_cons_zero, List.getElem?_cons_succ, List.set_cons_zero, List.set_cons_succ, Nat.reduceAdd, Nat.reduceSub, ite_t, ite_f, decide_eq_true_eq, reduceIte, true_and, and_true, Bool.not_true, Bool.not_false, m_bool, m_int, m_str, m_list, m_tuple, m_dict, isTab, String.reduceBEq, Bool.and_false, Bool.and_true, Bool.or_false, Bool.false_or, Bool.or_true, Bool.true_or, Bool.false_and, Bool.true_and, decide_true, decide_false, Bool.false_eq_true, reduceCtorEq, e_isi_lt, tAug, e_for, e_forR1, e_forR2, e_forR3, e_sortS, e_addT_ii, e_addT_ss, e_addT_rr, e_catT_l, e_catT_t, e_addW_ii, e_addW_ss, e_addW_rr, e_catW_l, e_catW_t, e_forZ, e_lc, e_lcR1, e_lcR2, e_lcZ, tRv, e_rv, tM1, e_join, e_spl, e_cnt, e_cntO, e_idx, tRaise, tTry, e_forEs, e_mulY_ii, e_mulY_ri, e_mulY_si, tTryS, tTryN, xAsg, xExp, xIf, e_forEl, e_stw, e_maxY_ii, e_maxY_r, e_minY_ii, e_minY_r, e_anyY, e_sumY, tLR1, tLR2, tPar3, ex_three, e_lcEs, e_strY_i, e_listY_r, e_listY_s, e_pop, e_popO, e_popAt, e_ext, e_clr, e_clrO, e_isB, e_isNB, e_lenS, e_lenSO, e_sc, at_2, at_3, e_cntS, tAsg2, e_other, e_lcEl, e_ins, e_insO, tAugS, e_getL, tChain3, tChain4, e_gLst, e_gLstO, tRvY, e_rvY_s, e_rvY_r, e_stp, tOrW, e_forZ3, e_sameW, tDDef, tDNewT, e_forEz, e_inS, e_ninS, tCBK]
            refine ⟨_, gR, ?_, by decide, fun r nr => ?_⟩
            · rw [row_len _ (inner01 m), List.length_map]
              unfold innerL
              rw [List.length_map]
              show m.length + m.length * 0 ≤ 16777216
              omega
            · have k18 := ((((k15.trans k6).trans k7).trans k8).trans kR)
              have gt := kR t _ (by simp) g8
              have kt := (((k15.trans k6).trans k7))
              exact told_id (h1 _ _ hsome r t _ (k18.none nr (by simp)) (kt.none nt (by simp)) upd_same ((upd_ne (ne_of_none gt nr)).trans gt) (k18.new nr) (pR.upd rfl))
    · exact h.elim
theorem ok_l_pressed (F : Fn K mg "_law_pressed" s_l_pressed p_l_pressed) (T : Bl mg) (c_l_step : Cal P w K mg base "_law_step" 2 p_l_step spPress) : Cal P w K mg base "_law_pressed" 3 p_l_pressed spPressed := by
  refine F.cal (k := 2) sc_l_pressed (fun vs H Q E h => ?_) (fun f cdv A outer s H vs Q E hr h => ?_)
  · unfold spPressed at h; split at h <;> first | rfl | exact h.elim
  · unfold spPressed at h
    split at h
    · rename_i z
      obtain ⟨bs, rfl, h01, hbl, hpl, h⟩ := h
      have hu := hu_of hr
      have hu64 := hr.units
      refine ⟨_, (@pss_cons _ _ _ _ _ (@ps_set _ _ (1) _ _ _ _ sc_l_pressed.nd rfl (by first | exact Or.inl rfl | exact Or.inr rfl) (@pe_lst _ _ _ _ pa_nil) (by rfl) (by first  | exact .inl rfl  | exact .inr rfl  | assumption)) (@pss_cons _ _ _ _ _ (@ps_while _ _ _ _ _ _ PassesOwn.never (@pt_cmpR _ _ _ _ _ _ _ _ op_notN (@pe_cal _ _ _ _ _ _ _ _ _ _ c_l_step (hr.mono (by first | decide | omega)) (by rfl) (@pa_cons _ _ _ _ _ (@pv _ 0 _ _ (by rfl) (by first  | exact Or.inl rfl  | exact Or.inr (Or.inl rfl)  | exact Or.inr (Or.inr rfl)) (by decide) (by decide)) pa_nil (by rfl)) (by decide) (by rfl) (by rfl)) pe_non (nomark _)) (@pss_cons _ _ _ _ _ (@ps_asg _ _ _ _ _ _ (@pe_cal _ _ _ _ _ _ _ _ _ _ c_l_step (hr.mono (by first | decide | omega)) (by rfl) (@pa_cons _ _ _ _ _ (@pv _ 0 _ _ (by rfl) (by first  | exact Or.inl rfl  | exact Or.inr (Or.inl rfl)  | exact Or.inr (Or.inr rfl)) (by decide) (by decide)) pa_nil (by rfl)) (by decide) (by rfl) (by rfl)) (@pg_tupX _ _ _ _ (2) _ rfl (@pgs_cons _ _ _ _ _ (@pg_name _ _ (2) _ sc_l_pressed.nd rfl (by first | exact Or.inl rfl | exact Or.inr rfl) (by first  | exact .inl rfl  | exact .inr rfl  | assumption)) (@pgs_cons _ _ _ _ _ (@pg_name _ _ (0) _ sc_l_pressed.nd rfl (by first | exact Or.inl rfl | exact Or.inr rfl) (by first  | exact .inl rfl  | exact .inr rfl  | assumption)) pgs_nil (by rfl)) (by rfl)) (by rfl) (by rfl)) (by rfl) (by rfl) (by rfl)) (@pss_one _ _ _ (@ps_expr _ _ _ _ (@pe_bmX _ _ _ _ _ _ _ _ _ _ _ _ PySem.F.plainAttrs_list PySem.F.slot_list_append PySem.F.type_list_append mt_appX (@pv _ 1 _ _ (by rfl) (by first  | exact Or.inl rfl  | exact Or.inr (Or.inl rfl)  | exact Or.inr (Or.inr rfl)) (by decide) (by decide)) (@pa_cons _ _ _ _ _ (@pv _ 2 _ _ (by rfl) (by first  | exact Or.inl rfl  | exact Or.inr (Or.inl rfl)  | exact Or.inr (Or.inr rfl)) (by decide) (by decide)) pa_nil (by rfl)) (by rfl) (by rfl) (by rfl) (by rfl) (by rfl)) (by rfl))))) (@pss_one _ _ _ (@ps_ret _ _ _ _ (@pe_tup _ _ _ _ _ (@pa_cons _ _ _ _ _ (@pv _ 1 _ _ (by rfl) (by first  | exact Or.inl rfl  | exact Or.inr (Or.inl rfl)  | exact Or.inr (Or.inr rfl)) (by decide) (by decide)) (@pa_cons _ _ _ _ _ (@pv _ 0 _ _ (by rfl) (by first  | exact Or.inl rfl  | exact Or.inr (Or.inl rfl)  | exact Or.inr (Or.inr rfl)) (by decide) (by decide)) pa_nil (by rfl)) (by rfl))))))), ?_⟩
      clear c_l_step
      walk_at "rd"
      refine ⟨by decide, fun l nl => ?_⟩
      generalize hE : upd H l _ = H1
      have g1 : H1 l = some (.lst (([] : List Addr).map V.ref)) := at_of hE
      have k1 := kp_of hE nl; have p1 := pl_of hE hpl rfl; clear hE
      refine ⟨fun d σ H' => ∃ ss cur rs st, d = cur.length ∧ PrC bs ss cur ∧ σ = [some (.str (rowS cur)), some (.ref l), st] ∧ H' l = some (.lst (rs.map V.ref)) ∧ StepsH H' rs ss ∧ Kp [] H H' ∧ Pl H', ⟨_, [], bs, [], _, rfl, .nil _, rfl, g1, .nil, k1, p1⟩, ?_⟩
      clear k1 p1 g1
      rintro d σ H3 ⟨ss, cur, rs, st, rfl, hPc, rfl, g3, S3, k3, p3⟩
      obtain ⟨hcl, c01⟩ := hPc.len h01
      walk_at "rd"
      refine press_ok c01 (by omega) p3 (fun hn => ?_) fun s inner hs p t H4 np nt gp gt k4 p4 => ?_
      · walk_at "rd"
        refine ⟨by decide, fun q nq => told_id (h ss cur hPc hn q l rs _ (k3.none nq (by simp)) nl (fun e => by subst e; rw [g3] at nq; cases nq) upd_same (by rw [upd_ne (fun e => by subst e; rw [g3] at nq; cases nq)]; exact g3) (S3.kp (Kp.new (Kp.refl _ _) nq)) (k3.new nq) (p3.upd rfl))⟩
      · have hlt := (press_len c01 hs).1
        have i01 := (press_len c01 hs).2
        have g4 := k4 l _ (by simp) g3
        have S4 := S3.kp k4
        have hrs : rs.length = ss.length := S3.1
        walk_at "rd"
        refine ⟨fun σ' H' => ∃ cur2 rs2 st2, cur2.length < cur.length ∧ PrC bs (ss ++ [s]) cur2 ∧ σ' = [some (.str (rowS cur2)), some (.ref l), st2] ∧ H' l = some (.lst (rs2.map V.ref)) ∧ StepsH H' rs2 (ss ++ [s]) ∧ Kp [] H H' ∧ Pl H', ?_, ?_⟩
        · rintro σ' H' ⟨cur2, rs2, st2, a1, a2, a3, a4⟩
          exact ⟨_, a1, ss ++ [s], cur2, rs2, st2, rfl, a2, a3, a4⟩
        · refine press_ok c01 (by omega) p4 (fun hn => absurd (hn.symm.trans hs) (by simp)) fun s' inner' hs' p' t' H5 np' nt' gp' gt' k5 p5 => ?_
          rw [hs] at hs'; cases hs'
          have g5 := k5 l _ (by simp) g4
          walk_at "rd"
          simp only [L2.start, tSeq, tAsg, tRet, tIfS, tNext, tDrop, tPar, tVar, tC, tOp, tUn, tCall, tCB, tCons, tNil, tTup, tLst, tTest, tNot, tTru, tAnd, tOr, tIf, tAndV, tOrV, tNotX, tB, tSl, tPart, tNoPart, tBX, tBX0, tChain, gName, gCons, gNil, gSub, rI_ii, rI0_ii, rU_i, ex_bl, ex_int, ex_some, ex_two, ex_cons, ex_str, ex_v, nil_and, e_add_ii, e_add_ss, e_add_rr, e_cat, e_mul_ii, e_mul_ri, e_rep, e_ix_s, e_ix_r, e_ixO_l, e_ixO_t, at_0, at_1, e_setX, e_setO_l, e_gTup, e_gTupO, e_len_s, e_len_r, e_lenO_l, e_lenO_t, e_lenO_d, e_abs, e_max, e_min, e_int_i, e_int_b, e_int_s, e_listO_l, e_listO_t, e_divmod, e_all, e_isi, e_eq_ii, e_eq_ss, e_eq_bb, e_ne_ii, e_ne_ss, e_ne_bb, e_tru_n, e_tru_b, e_tru_i, e_tru_s, e_tru_r, e_truO_l, e_truO_t, e_sl_s, e_sl_r, e_slO, e_app, e_appO, e_rev, e_revO, e_tyX_l, e_tyXO_l, e_tyX_s, e_iO_l, e_iO_t, e_upd_same, e_upd_ne, ne_eq, not_false_eq_true, e_isN_n, e_isN_i, e_isN_b, e_isN_s, e_isN_r, e_non, e_tyN_i, e_tyN_b, e_tyN_s, e_tyN_n, e_tyN_r, e_tyO_l, e_tyO_t, e_tyO_d, e_box_turn, e_box_cells, e_box_put, List.map_cons, List.map_nil, List.length_cons, List.length_nil, List.replicate, List.append_nil, List.nil_append, List.cons_append, List.getElem?_cons_zero, List.getElem?_cons_succ, List.set_cons_zero, List.set_cons_succ, Nat.reduceAdd, Nat.reduceSub, ite_t, ite_f, decide_eq_true_eq, reduceIte, true_and, and_true, Bool.not_true, Bool.not_false, m_bool, m_int, m_str, m_list, m_tuple, m_dict, isTab, String.reduceBEq, Bool.and_false, Bool.and_true, Bool.or_false, Bool.false_or, Bool.or_true, Bool.true_or, Bool.false_and, Bool.true_and, decide_true, decide_false, Bool.false_eq_true, reduceCtorEq, e_isi_lt, tAug, e_for, e_forR1, e_forR2, e_forR3, e_sortS, e_addT_ii, e_addT_ss, e_addT_rr, e_catT_l, e_catT_t, e_addW_ii, e_addW_ss, e_addW_rr, e_catW_l, e_catW_t, e_forZ, e_lc, e_lcR1, e_lcR2, e_lcZ, tRv, e_rv, tM1, e_join, e_spl, e_cnt, e_cntO, e_idx, tRaise, tTry, e_forEs, e_mulY_ii, e_mulY_ri, e_mulY_si, tTryS, tTryN, xAsg, xExp, xIf, e_forEl, e_stw, e_maxY_ii, e_maxY_r, e_minY_ii, e_minY_r, e_anyY, e_sumY, tLR1, tLR2, tPar3, ex_three, e_lcEs, e_strY_i, e_listY_r, e_listY_s, e_pop, e_popO, e_popAt, e_ext, e_clr, e_clrO, e_isB, e_isNB, e_lenS, e_lenSO, e_sc, at_2, at_3, e_cntS, tAsg2, e_other, e_lcEl, e_ins, e_insO, tAugS, e_getL, tChain3, tChain4, e_gLst, e_gLstO, tRvY, e_rvY_s, e_rvY_r, e_stp, tOrW, e_forZ3, e_sameW, tDDef, tDNewT, e_forEz, e_inS, e_ninS, tCBK, gp', g5]
          refine ⟨by rw [List.length_map, hrs]; exact Nat.lt_of_le_of_lt (show ss.length ≤ 20000 by omega) (by decide), inner, rs ++ [t'], _, hlt, hPc.snoc hs, rfl, by rw [List.map_append]; rfl, ((S4.kp k5).snoc gt').updL g5, (((k3.trans k4).trans k5)).upd (.inr nl), p5.upd rfl⟩
    · exact h.elim
theorem ok_l_long (F : Fn K mg "_law_long" s_l_long p_l_long) (T : Bl mg) (c_l_take : Cal P w K mg base "_law_take" 1 p_l_take spTake) (c_l_share : Cal P w K mg base "_law_share" 2 p_l_share spShare59) (c_l_steady : Cal P w K mg base "_law_steady" 1 p_l_steady spLSt) : Cal P w K mg base "_law_long" 3 p_l_long spLong63 := by
  refine F.cal (k := 2) sc_l_long (fun vs H Q E h => ?_) (fun f cdv A outer s H vs Q E hr h => ?_)
  · unfold spLong63 at h; split at h <;> first | rfl | exact h.elim
  · unfold spLong63 at h
    split at h
    · rename_i b
      obtain ⟨c, T0, hbx, hpl, hT, h⟩ := h
      have hu := hu_of hr
      have hu64 := hr.units
      refine ⟨_, (@pss_cons _ _ _ _ _ (@ps_set _ _ (1) _ _ _ _ sc_l_long.nd rfl (by first | exact Or.inl rfl | exact Or.inr rfl) (@pe_cal _ _ _ _ _ _ _ _ _ _ c_l_take (hr.mono (by first | decide | omega)) (by rfl) (@pa_cons _ _ _ _ _ (@pv _ 0 _ _ (by rfl) (by first  | exact Or.inl rfl  | exact Or.inr (Or.inl rfl)  | exact Or.inr (Or.inr rfl)) (by decide) (by decide)) (@pa_cons _ _ _ _ _ pe_int pa_nil (by rfl)) (by rfl)) (by decide) (by rfl) (by rfl)) (by rfl) (by first  | exact .inl rfl  | exact .inr rfl  | assumption)) (@pss_cons _ _ _ _ _ (@ps_set _ _ (2) _ _ _ _ sc_l_long.nd rfl (by first | exact Or.inl rfl | exact Or.inr rfl) (@pe_cal _ _ _ _ _ _ _ _ _ _ c_l_share (hr.mono (by first | decide | omega)) (by rfl) (@pa_cons _ _ _ _ _ (@pv _ 0 _ _ (by rfl) (by first  | exact Or.inl rfl  | exact Or.inr (Or.inl rfl)  | exact Or.inr (Or.inr rfl)) (by decide) (by decide)) (@pa_cons _ _ _ _ _ (@pe_ixX _ _ _ _ _ _ hu (@pe_lst _ _ _ _ (@pa_cons _ _ _ _ _ pe_int (@pa_cons _ _ _ _ _ pe_int pa_nil (by rfl)) (by rfl))) (@pe_cal _ _ _ _ _ _ _ _ _ _ c_l_take (hr.mono (by first | decide | omega)) (by rfl) (@pa_cons _ _ _ _ _ (@pv _ 0 _ _ (by rfl) (by first  | exact Or.inl rfl  | exact Or.inr (Or.inl rfl)  | exact Or.inr (Or.inr rfl)) (by decide) (by decide)) (@pa_cons _ _ _ _ _ pe_int pa_nil (by rfl)) (by rfl)) (by decide) (by rfl) (by rfl)) (fun _ _ => rfl)) pa_nil (by rfl)) (by rfl)) (by decide) (by rfl) (by rfl)) (by rfl) (by first  | exact .inl rfl  | exact .inr rfl  | assumption)) (@pss_cons _ _ _ _ _ (@ps_set _ _ (3) _ _ _ _ sc_l_long.nd rfl (by first | exact Or.inl rfl | exact Or.inr rfl) (@pe_cal _ _ _ _ _ _ _ _ _ _ c_l_steady (hr.mono (by first | decide | omega)) (by rfl) (@pa_cons _ _ _ _ _ (@pv _ 2 _ _ (by rfl) (by first  | exact Or.inl rfl  | exact Or.inr (Or.inl rfl)  | exact Or.inr (Or.inr rfl)) (by decide) (by decide)) (@pa_cons _ _ _ _ _ (@pe_cal _ _ _ _ _ _ _ _ _ _ c_l_take (hr.mono (by first | decide | omega)) (by rfl) (@pa_cons _ _ _ _ _ (@pv _ 0 _ _ (by rfl) (by first  | exact Or.inl rfl  | exact Or.inr (Or.inl rfl)  | exact Or.inr (Or.inr rfl)) (by decide) (by decide)) (@pa_cons _ _ _ _ _ (@pe_ixX _ _ _ _ _ _ hu (@pv _ 2 _ _ (by rfl) (by first  | exact Or.inl rfl  | exact Or.inr (Or.inl rfl)  | exact Or.inr (Or.inr rfl)) (by decide) (by decide)) pe_int (fun _ _ => rfl)) pa_nil (by rfl)) (by rfl)) (by decide) (by rfl) (by rfl)) (@pa_cons _ _ _ _ _ (@pe_op _ _ _ _ _ _ _ _ op_addX pe_int (@pe_cal _ _ _ _ _ _ _ _ _ _ c_l_take (hr.mono (by first | decide | omega)) (by rfl) (@pa_cons _ _ _ _ _ (@pv _ 0 _ _ (by rfl) (by first  | exact Or.inl rfl  | exact Or.inr (Or.inl rfl)  | exact Or.inr (Or.inr rfl)) (by decide) (by decide)) (@pa_cons _ _ _ _ _ pe_int pa_nil (by rfl)) (by rfl)) (by decide) (by rfl) (by rfl))) pa_nil (by rfl)) (by rfl)) (by rfl)) (by decide) (by rfl) (by rfl)) (by rfl) (by first  | exact .inl rfl  | exact .inr rfl  | assumption)) (@pss_consC _ _ _ _ _ (@ps_if _ _ _ _ _ _ _ _ (@pt_cmpR _ _ _ _ _ _ _ _ (op_eqK (K := K) rfl hu64) (@pv _ 1 _ _ (by rfl) (by first  | exact Or.inl rfl  | exact Or.inr (Or.inl rfl)  | exact Or.inr (Or.inr rfl)) (by decide) (by decide)) pe_int (nomark _)) (@pss_cons _ _ _ _ _ (@ps_set _ _ (4) _ _ _ _ sc_l_long.nd rfl (by first | exact Or.inl rfl | exact Or.inr rfl) (@pe_cal _ _ _ _ _ _ _ _ _ _ c_l_take (hr.mono (by first | decide | omega)) (by rfl) (@pa_cons _ _ _ _ _ (@pv _ 0 _ _ (by rfl) (by first  | exact Or.inl rfl  | exact Or.inr (Or.inl rfl)  | exact Or.inr (Or.inr rfl)) (by decide) (by decide)) (@pa_cons _ _ _ _ _ (@pe_callB _ _ _ _ _ _ _ _ _ call_lenX (by rfl) T.b_len bt_len (@pa_cons _ _ _ _ _ (@pv _ 3 _ _ (by rfl) (by first  | exact Or.inl rfl  | exact Or.inr (Or.inl rfl)  | exact Or.inr (Or.inr rfl)) (by decide) (by decide)) pa_nil (by rfl)) (by decide) (by decide) (by rfl) (by rfl)) pa_nil (by rfl)) (by rfl)) (by decide) (by rfl) (by rfl)) (by rfl) (by first  | exact .inl rfl  | exact .inr rfl  | assumption)) (@pss_one _ _ _ (@ps_set _ _ (3) _ _ _ _ sc_l_long.nd rfl (by first | exact Or.inl rfl | exact Or.inr rfl) (@pe_op _ _ _ _ _ _ _ _ op_addX (@pe_op _ _ _ _ _ _ _ _ op_addX (@pe_slice _ _ _ _ _ _ _ _ _ _ sl_X (@pv _ 3 _ _ (by rfl) (by first  | exact Or.inl rfl  | exact Or.inr (Or.inl rfl)  | exact Or.inr (Or.inr rfl)) (by decide) (by decide)) po_none (@po_some _ _ _ (@pv _ 4 _ _ (by rfl) (by first  | exact Or.inl rfl  | exact Or.inr (Or.inl rfl)  | exact Or.inr (Or.inr rfl)) (by decide) (by decide)))) (@pe_ixX _ _ _ _ _ _ hu pe_str (@pe_callTy _ _ _ _ _ _ _ _ _ call_intX (by rfl) T.b_int bt_int (@pa_cons _ _ _ _ _ (@pe_ixX _ _ _ _ _ _ hu (@pv _ 3 _ _ (by rfl) (by first  | exact Or.inl rfl  | exact Or.inr (Or.inl rfl)  | exact Or.inr (Or.inr rfl)) (by decide) (by decide)) (@pv _ 4 _ _ (by rfl) (by first  | exact Or.inl rfl  | exact Or.inr (Or.inl rfl)  | exact Or.inr (Or.inr rfl)) (by decide) (by decide)) (fun _ _ => rfl)) pa_nil (by rfl)) (by decide) (by decide) (by rfl) (by rfl)) (fun _ _ => rfl))) (@pe_slice _ _ _ _ _ _ _ _ _ _ sl_X (@pv _ 3 _ _ (by rfl) (by first  | exact Or.inl rfl  | exact Or.inr (Or.inl rfl)  | exact Or.inr (Or.inr rfl)) (by decide) (by decide)) (@po_some _ _ _ (@pe_op _ _ _ _ _ _ _ _ op_addX (@pv _ 4 _ _ (by rfl) (by first  | exact Or.inl rfl  | exact Or.inr (Or.inl rfl)  | exact Or.inr (Or.inr rfl)) (by decide) (by decide)) pe_int)) po_none)) (by rfl) (by first  | exact .inl rfl  | exact .inr rfl  | assumption)))) pss_nil) (@pss_consC _ _ _ _ _ (@ps_if _ _ _ _ _ _ _ _ (@pt_cmpR _ _ _ _ _ _ _ _ (op_eqK (K := K) rfl hu64) (@pv _ 1 _ _ (by rfl) (by first  | exact Or.inl rfl  | exact Or.inr (Or.inl rfl)  | exact Or.inr (Or.inr rfl)) (by decide) (by decide)) pe_int (nomark _)) (@pss_cons _ _ _ _ _ (@ps_set _ _ (5) _ _ _ _ sc_l_long.nd rfl (by first | exact Or.inl rfl | exact Or.inr rfl) (@pe_cal _ _ _ _ _ _ _ _ _ _ c_l_take (hr.mono (by first | decide | omega)) (by rfl) (@pa_cons _ _ _ _ _ (@pv _ 0 _ _ (by rfl) (by first  | exact Or.inl rfl  | exact Or.inr (Or.inl rfl)  | exact Or.inr (Or.inr rfl)) (by decide) (by decide)) (@pa_cons _ _ _ _ _ pe_int pa_nil (by rfl)) (by rfl)) (by decide) (by rfl) (by rfl)) (by rfl) (by first  | exact .inl rfl  | exact .inr rfl  | assumption)) (@pss_cons _ _ _ _ _ (@ps_set _ _ (3) _ _ _ _ sc_l_long.nd rfl (by first | exact Or.inl rfl | exact Or.inr rfl) (@pe_op _ _ _ _ _ _ _ _ op_mulY pe_str (@pe_cal _ _ _ _ _ _ _ _ _ _ c_l_take (hr.mono (by first | decide | omega)) (by rfl) (@pa_cons _ _ _ _ _ (@pv _ 0 _ _ (by rfl) (by first  | exact Or.inl rfl  | exact Or.inr (Or.inl rfl)  | exact Or.inr (Or.inr rfl)) (by decide) (by decide)) (@pa_cons _ _ _ _ _ pe_int pa_nil (by rfl)) (by rfl)) (by decide) (by rfl) (by rfl))) (by rfl) (by first  | exact .inl rfl  | exact .inr rfl  | assumption)) (@pss_cons _ _ _ _ _ (@ps_for _ _ _ _ _ _ _ _ PassesOwn.never rfl (@pi_range1 _ _ _ _ _ _ (by rfl) T.b_range (@pa_cons _ _ _ _ _ (@pe_cal _ _ _ _ _ _ _ _ _ _ c_l_take (hr.mono (by first | decide | omega)) (by rfl) (@pa_cons _ _ _ _ _ (@pv _ 0 _ _ (by rfl) (by first  | exact Or.inl rfl  | exact Or.inr (Or.inl rfl)  | exact Or.inr (Or.inr rfl)) (by decide) (by decide)) (@pa_cons _ _ _ _ _ pe_int pa_nil (by rfl)) (by rfl)) (by decide) (by rfl) (by rfl)) pa_nil (by rfl)) (by rfl)) (@pg_name _ _ (6) _ sc_l_long.nd rfl (by first | exact Or.inl rfl | exact Or.inr rfl) (by first  | exact .inl rfl  | exact .inr rfl  | assumption)) (@pss_one _ _ _ (@ps_set _ _ (3) _ _ _ _ sc_l_long.nd rfl (by first | exact Or.inl rfl | exact Or.inr rfl) (@pe_op _ _ _ _ _ _ _ _ op_addX (@pe_op _ _ _ _ _ _ _ _ op_addX (@pv _ 3 _ _ (by rfl) (by first  | exact Or.inl rfl  | exact Or.inr (Or.inl rfl)  | exact Or.inr (Or.inr rfl)) (by decide) (by decide)) pe_str) (@pe_op _ _ _ _ _ _ _ _ op_mulY pe_str (@pe_op _ _ _ _ _ _ _ _ op_addX (@pe_op _ _ _ _ _ _ _ _ op_addX pe_int (@pv _ 5 _ _ (by rfl) (by first  | exact Or.inl rfl  | exact Or.inr (Or.inl rfl)  | exact Or.inr (Or.inr rfl)) (by decide) (by decide))) (@pe_cal _ _ _ _ _ _ _ _ _ _ c_l_take (hr.mono (by first | decide | omega)) (by rfl) (@pa_cons _ _ _ _ _ (@pv _ 0 _ _ (by rfl) (by first  | exact Or.inl rfl  | exact Or.inr (Or.inl rfl)  | exact Or.inr (Or.inr rfl)) (by decide) (by decide)) (@pa_cons _ _ _ _ _ pe_int pa_nil (by rfl)) (by rfl)) (by decide) (by rfl) (by rfl))))) (by rfl) (by first  | exact .inl rfl  | exact .inr rfl  | assumption))) (by intro _; rfl)) (@pss_one _ _ _ (@ps_set _ _ (3) _ _ _ _ sc_l_long.nd rfl (by first | exact Or.inl rfl | exact Or.inr rfl) (@pe_op _ _ _ _ _ _ _ _ op_addX (@pv _ 3 _ _ (by rfl) (by first  | exact Or.inl rfl  | exact Or.inr (Or.inl rfl)  | exact Or.inr (Or.inr rfl)) (by decide) (by decide)) (@pe_op _ _ _ _ _ _ _ _ op_mulY pe_str (@pe_cal _ _ _ _ _ _ _ _ _ _ c_l_take (hr.mono (by first | decide | omega)) (by rfl) (@pa_cons _ _ _ _ _ (@pv _ 0 _ _ (by rfl) (by first  | exact Or.inl rfl  | exact Or.inr (Or.inl rfl)  | exact Or.inr (Or.inr rfl)) (by decide) (by decide)) (@pa_cons _ _ _ _ _ pe_int pa_nil (by rfl)) (by rfl)) (by decide) (by rfl) (by rfl)))) (by rfl) (by first  | exact .inl rfl  | exact .inr rfl  | assumption)))))) pss_nil) (@pss_one _ _ _ (@ps_ret _ _ _ _ (@pv _ 3 _ _ (by rfl) (by first  | exact Or.inl rfl  | exact Or.inr (Or.inl rfl)  | exact Or.inr (Or.inr rfl)) (by decide) (by decide))))))))), ?_⟩
      clear c_l_take c_l_share c_l_steady
      walk_at "rd"
      refine take_ok hbx hpl (by decide) (sm_of (by decide) (by decide)) (by omega) fun way H1 a1 b1 x1 c1 p1 => ?_
      have k1 : Kp [b, c] H H1 := (Kp.refl _ _).chg c1 (by simp)
      walk_at "rd"
      refine ⟨by decide, fun q hq => ?_⟩
      have nqb : q ≠ b := fun e => x1.hb (e ▸ hq)
      have nqc : q ≠ c := fun e => x1.hc (e ▸ hq)
      refine take_ok (x1.new hq) (p1.upd rfl) (by decide) (sm_of (by decide) (by decide)) (by omega) fun e H2 a2 b2 x2 c2 p2 => ?_
      have gq : H2 q = _ := chg_keep c2 upd_same nqb nqc
      have k2 : Kp [b, c] H H2 := (k1.new hq).chg c2 (by simp)
      simp only [L2.start, tSeq, tAsg, tRet, tIfS, tNext, tDrop, tPar, tVar, tC, tOp, tUn, tCall, tCB, tCons, tNil, tTup, tLst, tTest, tNot, tTru, tAnd, tOr, tIf, tAndV, tOrV, tNotX, tB, tSl, tPart, tNoPart, tBX, tBX0, tChain, gName, gCons, gNil, gSub, rI_ii, rI0_ii, rU_i, ex_bl, ex_int, ex_some, ex_two, ex_cons, ex_str, ex_v, nil_and, e_add_ii, e_add_ss, e_add_rr, e_cat, e_mul_ii, e_mul_ri, e_rep, e_ix_s, e_ix_r, e_ixO_l, e_ixO_t, at_0, at_1, e_setX, e_setO_l, e_gTup, e_gTupO, e_len_s, e_len_r, e_lenO_l, e_lenO_t, e_lenO_d, e_abs, e_max, e_min, e_int_i, e_int_b, e_int_s, e_listO_l, e_listO_t, e_divmod, e_all, e_isi, e_eq_ii, e_eq_ss, e_eq_bb, e_ne_ii, e_ne_ss, e_ne_bb, e_tru_n, e_tru_b, e_tru_i, e_tru_s, e_tru_r, e_truO_l, e_truO_t, e_sl_s, e_sl_r, e_slO, e_app, e_appO, e_rev, e_revO, e_tyX_l, e_tyXO_l, e_tyX_s, e_iO_l, e_iO_t, e_upd_same, e_upd_ne, ne_eq, not_false_eq_true, e_isN_n, e_isN_i, e_isN_b, e_isN_s, e_isN_r, e_non, e_tyN_i, e_tyN_b, e_tyN_s, e_tyN_n, e_tyN_r, e_tyO_l, e_tyO_t, e_tyO_d, e_box_turn, e_box_cells, e_box_put, List.map_cons, List.map_nil, List.length_cons, List.length_nil, List.replicate, List.append_nil, List.nil_append, List.cons_append, List.getElem?_cons_zero, List.getElem?_cons_succ, List.set_cons_zero, List.set_cons_succ, Nat.reduceAdd, Nat.reduceSub, ite_t, ite_f, decide_eq_true_eq, reduceIte, true_and, and_true, Bool.not_true, Bool.not_false, m_bool, m_int, m_str, m_list, m_tuple, m_dict, isTab, String.reduceBEq, Bool.and_false, Bool.and_true, Bool.or_false, Bool.false_or, Bool.or_true, Bool.true_or, Bool.false_and, Bool.true_and, decide_true, decide_false, Bool.false_eq_true, reduceCtorEq, e_isi_lt, tAug, e_for, e_forR1, e_forR2, e_forR3, e_sortS, e_addT_ii, e_addT_ss, e_addT_rr, e_catT_l, e_catT_t, e_addW_ii, e_addW_ss, e_addW_rr, e_catW_l, e_catW_t, e_forZ, e_lc, e_lcR1, e_lcR2, e_lcZ, tRv, e_rv, tM1, e_join, e_spl, e_cnt, e_cntO, e_idx, tRaise, tTry, e_forEs, e_mulY_ii, e_mulY_ri, e_mulY_si, tTryS, tTryN, xAsg, xExp, xIf, e_forEl, e_stw, e_maxY_ii, e_maxY_r, e_minY_ii, e_minY_r, e_anyY, e_sumY, tLR1, tLR2, tPar3, ex_three, e_lcEs, e_strY_i, e_listY_r, e_listY_s, e_pop, e_popO, e_popAt, e_ext, e_clr, e_clrO, e_isB, e_isNB, e_lenS, e_lenSO, e_sc, at_2, at_3, e_cntS, tAsg2, e_other, e_lcEl, e_ins, e_insO, tAugS, e_getL, tChain3, tChain4, e_gLst, e_gLstO, tRvY, e_rvY_s, e_rvY_r, e_stp, tOrW, e_forZ3, e_sameW, tDDef, tDNewT, e_forEz, e_inS, e_ninS, tCBK, gq]
      obtain ⟨mo, hmo, hat⟩ := pick2 (x := 40) (y := 200) (show e = 0 ∨ e = 1 by omega)
      refine ⟨_, hat, ?_⟩
      clear hat gq
      refine share59_ok x2 p2 (by omega) (by omega) (by omega) fun sh t u H3 hsh gsh h0t htu h1u hu30 x3 c3 p3 => ?_
      have nsb : sh ≠ b := fun e => x2.hb (e ▸ hsh)
      have nsc : sh ≠ c := fun e => x2.hc (e ▸ hsh)
      have hshH : H sh = none := k2.none hsh (by simp [nsb, nsc])
      have k3 : Kp [b, c] H H3 := k2.chg c3 (by intro a ha; simp at ha; rcases ha with rfl | rfl | rfl <;> simp [hshH])
      simp only [L2.start, tSeq, tAsg, tRet, tIfS, tNext, tDrop, tPar, tVar, tC, tOp, tUn, tCall, tCB, tCons, tNil, tTup, tLst, tTest, tNot, tTru, tAnd, tOr, tIf, tAndV, tOrV, tNotX, tB, tSl, tPart, tNoPart, tBX, tBX0, tChain, gName, gCons, gNil, gSub, rI_ii, rI0_ii, rU_i, ex_bl, ex_int, ex_some, ex_two, ex_cons, ex_str, ex_v, nil_and, e_add_ii, e_add_ss, e_add_rr, e_cat, e_mul_ii, e_mul_ri, e_rep, e_ix_s, e_ix_r, e_ixO_l, e_ixO_t, at_0, at_1, e_setX, e_setO_l, e_gTup, e_gTupO, e_len_s, e_len_r, e_lenO_l, e_lenO_t, e_lenO_d, e_abs, e_max, e_min, e_int_i, e_int_b, e_int_s, e_listO_l, e_listO_t, e_divmod, e_all, e_isi, e_eq_ii, e_eq_ss, e_eq_bb, e_ne_ii, e_ne_ss, e_ne_bb, e_tru_n, e_tru_b, e_tru_i, e_tru_s, e_tru_r, e_truO_l, e_truO_t, e_sl_s, e_sl_r, e_slO, e_app, e_appO, e_rev, e_revO, e_tyX_l, e_tyXO_l, e_tyX_s, e_iO_l, e_iO_t, e_upd_same, e_upd_ne, ne_eq, not_false_eq_true, e_isN_n, e_isN_i, e_isN_b, e_isN_s, e_isN_r, e_non, e_tyN_i, e_tyN_b, e_tyN_s, e_tyN_n, e_tyN_r, e_tyO_l, e_tyO_t, e_tyO_d, e_box_turn, e_box_cells, e_box_put, List.map_cons, List.map_nil, List.length_cons, List.length_nil, List.replicate, List.append_nil, List.nil_append, List.cons_append, List.getElem?_cons_zero, List.getElem?_cons_succ, List.set_cons_zero, List.set_cons_succ, Nat.reduceAdd, Nat.reduceSub, ite_t, ite_f, decide_eq_true_eq, reduceIte, true_and, and_true, Bool.not_true, Bool.not_false, m_bool, m_int, m_str, m_list, m_tuple, m_dict, isTab, String.reduceBEq, Bool.and_false, Bool.and_true, Bool.or_false, Bool.false_or, Bool.or_true, Bool.true_or, Bool.false_and, Bool.true_and, decide_true, decide_false, Bool.false_eq_true, reduceCtorEq, e_isi_lt, tAug, e_for, e_forR1, e_forR2, e_forR3, e_sortS, e_addT_ii, e_addT_ss, e_addT_rr, e_catT_l, e_catT_t, e_addW_ii, e_addW_ss, e_addW_rr, e_catW_l, e_catW_t, e_forZ, e_lc, e_lcR1, e_lcR2, e_lcZ, tRv, e_rv, tM1, e_join, e_spl, e_cnt, e_cntO, e_idx, tRaise, tTry, e_forEs, e_mulY_ii, e_mulY_ri, e_mulY_si, tTryS, tTryN, xAsg, xExp, xIf, e_forEl, e_stw, e_maxY_ii, e_maxY_r, e_minY_ii, e_minY_r, e_anyY, e_sumY, tLR1, tLR2, tPar3, ex_three, e_lcEs, e_strY_i, e_listY_r, e_listY_s, e_pop, e_popO, e_popAt, e_ext, e_clr, e_clrO, e_isB, e_isNB, e_lenS, e_lenSO, e_sc, at_2, at_3, e_cntS, tAsg2, e_other, e_lcEl, e_ins, e_insO, tAugS, e_getL, tChain3, tChain4, e_gLst, e_gLstO, tRvY, e_rvY_s, e_rvY_r, e_stp, tOrW, e_forZ3, e_sameW, tDDef, tDNewT, e_forEz, e_inS, e_ninS, tCBK, gsh]
      refine take_ok x3 p3 (by omega) (sm_of (by omega) (by omega)) (by omega) fun st H4 a4 b4 x4 c4 p4 => ?_
      have g4 := chg_keep c4 gsh nsb nsc
      refine take_ok x4 p4 (by decide) (sm_of (by decide) (by decide)) (by omega) fun mn H5 a5 b5 x5 c5 p5 => ?_
      have g5 := chg_keep c5 g4 nsb nsc
      walk_at "rd"
      refine lst_ok g5 (by omega) (by omega) (by omega) (by omega) ?_
      have hb0 : ∀ x ∈ bitsE u st (List.replicate (1 + mn).toNat t), x = 0 ∨ x = 1 := bits01 u _ st
      have hb1 : (bitsE u st (List.replicate (1 + mn).toNat t)).length = (1 + mn).toNat := by rw [bitsE_len, List.length_replicate]
      generalize bitsE u st (List.replicate (1 + mn).toNat t) = bs at hb0 hb1 ⊢
      have hbl : 1 ≤ bs.length ∧ bs.length ≤ 400 := by omega
      have hrl := row_size hb0
      have hrz : (rowS bs).length ≤ sizeLine := by rw [hrl]; exact Nat.le_trans hbl.2 (by decide)
      have k5 := (k3.chg c4 (by simp)).chg c5 (by simp)
      clear x3 p3 x4 p4 c3 c4 c5 hsh gsh g4 g5 k3 x2 p2 k2 c2 x1 p1 k1 c1 hq hb1 hshH
      refine e_cut (fun σ' H' => ∃ (bs : List Int) (s4 : Option V), σ' = [some (.ref b), some (.int way), some (.ref sh), some (.str (rowS bs)), s4, none, none] ∧ bs.length ≤ 401 ∧ (∀ x ∈ bs, x = 0 ∨ x = 1) ∧ Box H' b c (T0 + 20) ∧ Kp [b, c] H H' ∧ Pl H') ?_ ?_
      · walk_at "rd"
        split
        · refine ⟨hrz, ?_⟩
          rw [show ((rowS bs).length : Int) = (bs.length : Int) by rw [hrl]]
          refine take_ok x5 p5 (by omega) (sm_of (by omega) (by omega)) (by omega) fun at' H6 a6 b6 x6 c6 p6 => ?_
          obtain ⟨k, rfl⟩ : ∃ k : Nat, at' = (k : Int) := ⟨at'.toNat, by omega⟩
          walk_at "rd"
          exact bend_ok (k := k) (Q := fun z => ∃ (bs' : List Int) (s4' : Option V), [some (V.ref b), some (V.int way), some (V.ref sh), some (V.str z), some (V.int k), none, none] = [some (V.ref b), some (V.int way), some (V.ref sh), some (V.str (rowS bs')), s4', none, none] ∧ bs'.length ≤ 401 ∧ (∀ x ∈ bs', x = 0 ∨ x = 1) ∧ Box H6 b c (T0 + 20) ∧ Kp [b, c] H H6 ∧ Pl H6) hb0 (by omega) (by omega) fun bs' hl' h01' => ⟨bs', _, rfl, by omega, h01', x6.mono (by omega), k5.chg c6 (by simp), p6⟩
        · exact ⟨bs, _, rfl, by omega, hb0, x5.mono (by omega), k5, p5⟩
      clear hbl hrl hrz hb0 x5 p5 k5
      rintro σ H6 ⟨bs, s4, rfl, hbl, hb0, x6, k6, p6⟩
      refine e_cut (fun σ' H' => ∃ (bs : List Int) (s5 s6 : Option V), σ' = [some (.ref b), some (.int way), some (.ref sh), some (.str (rowS bs)), s4, s5, s6] ∧ bs.length ≤ 401 ∧ (∀ x ∈ bs, x = 0 ∨ x = 1) ∧ Box H' b c (T0 + 100) ∧ Kp [b, c] H H' ∧ Pl H') ?_ ?_
      · walk_at "rd"
        split
        · refine take_ok x6 p6 (by decide) (sm_of (by decide) (by decide)) (by omega) fun le H7 a7 b7 x7 c7 p7 => ?_
          refine take_ok x7 p7 (by decide) (sm_of (by decide) (by decide)) (by omega) fun ze H8 a8 b8 x8 c8 p8 => ?_
          walk_at "rd"
          refine ⟨mulok_0 a8 (by omega), ?_⟩
          rw [mul_zeros a8]
          refine take_ok x8 p8 (by decide) (sm_of (by decide) (by decide)) (by omega) fun tu H9 a9 b9 x9 c9 p9 => ?_
          have k9 := ((k6.chg c7 (by simp)).chg c8 (by simp)).chg c9 (by simp)
          walk_at "rd"
          refine forR_ok (by omega) (by omega) (fun i σ H' => ∃ (bs : List Int) (s6 : Option V), σ = [some (.ref b), some (.int way), some (.ref sh), some (.str (rowS bs)), s4, some (.int le), s6] ∧ bs.length ≤ 11 + 11 * i ∧ (∀ x ∈ bs, x = 0 ∨ x = 1) ∧ Box H' b c (T0 + 23 + i) ∧ Kp [b, c] H H' ∧ Pl H') ⟨_, _, rfl, by rw [List.length_replicate]; omega, rep01' (.inl rfl), x9.mono (by omega), k9, p9⟩ ?_ ?_
          · rintro i σ H10 hi ⟨cs, s6, rfl, hcl, hc01, x10, k10, p10⟩
            have hi24 : i < 24 := by omega
            have hrl2 := row_size hc01
            walk_at "rd"
            refine ⟨by rw [hrl2]; exact Nat.le_trans (show cs.length + 1 ≤ 1000 by omega) (by decide), ?_⟩
            refine take_ok x10 p10 (by decide) (sm_of (by decide) (by decide)) (by omega) fun mo2 H11 a11 b11 x11 c11 p11 => ?_
            simp only [L2.start, tSeq, tAsg, tRet, tIfS, tNext, tDrop, tPar, tVar, tC, tOp, tUn, tCall, tCB, tCons, tNil, tTup, tLst, tTest, tNot, tTru, tAnd, tOr, tIf, tAndV, tOrV, tNotX, tB, tSl, tPart, tNoPart, tBX, tBX0, tChain, gName, gCons, gNil, gSub, rI_ii, rI0_ii, rU_i, ex_bl, ex_int, ex_some, ex_two, ex_cons, ex_str, ex_v, nil_and, e_add_ii, e_add_ss, e_add_rr, e_cat, e_mul_ii, e_mul_ri, e_rep, e_ix_s, e_ix_r, e_ixO_l, e_ixO_t, at_0, at_1, e_setX, e_setO_l, e_gTup, e_gTupO, e_len_s, e_len_r, e_lenO_l, e_lenO_t, e_lenO_d, e_abs, e_max, e_min, e_int_i, e_int_b, e_int_s, e_listO_l, e_listO_t, e_divmod, e_all, e_isi, e_eq_ii, e_eq_ss, e_eq_bb, e_ne_ii, e_ne_ss, e_ne_bb, e_tru_n, e_tru_b, e_tru_i, e_tru_s, e_tru_r, e_truO_l, e_truO_t, e_sl_s, e_sl_r, e_slO, e_app, e_appO, e_rev, e_revO, e_tyX_l, e_tyXO_l, e_tyX_s, e_iO_l, e_iO_t, e_upd_same, e_upd_ne, ne_eq, not_false_eq_true, e_isN_n, e_isN_i, e_isN_b, e_isN_s, e_isN_r, e_non, e_tyN_i, e_tyN_b, e_tyN_s, e_tyN_n, e_tyN_r, e_tyO_l, e_tyO_t, e_tyO_d, e_box_turn, e_box_cells, e_box_put, List.map_cons, List.map_nil, List.length_cons, List.length_nil, List.replicate, List.append_nil, List.nil_append, List.cons_append, List.getElem?_cons_zero, List.getElem?_cons_succ, List.set_cons_zero, List.set_cons_succ, Nat.reduceAdd, Nat.reduceSub, ite_t, ite_f, decide_eq_true_eq, reduceIte, true_and, and_true, Bool.not_true, Bool.not_false, m_bool, m_int, m_str, m_list, m_tuple, m_dict, isTab, String.reduceBEq, Bool.and_false, Bool.and_true, Bool.or_false, Bool.false_or, Bool.or_true, Bool.true_or, Bool.false_and, Bool.true_and, decide_true, decide_false, Bool.false_eq_true, reduceCtorEq, e_isi_lt, tAug, e_for, e_forR1, e_forR2, e_forR3, e_sortS, e_addT_ii, e_addT_ss, e_addT_rr, e_catT_l, e_catT_t, e_addW_ii, e_addW_ss, e_addW_rr, e_catW_l, e_catW_t, e_forZ, e_lc, e_lcR1, e_lcR2, e_lcZ, tRv, e_rv, tM1, e_join, e_spl, e_cnt, e_cntO, e_idx, tRaise, tTry, e_forEs, e_mulY_ii, e_mulY_ri, e_mulY_si, tTryS, tTryN, xAsg, xExp, xIf, e_forEl, e_stw, e_maxY_ii, e_maxY_r, e_minY_ii, e_minY_r, e_anyY, e_sumY, tLR1, tLR2, tPar3, ex_three, e_lcEs, e_strY_i, e_listY_r, e_listY_s, e_pop, e_popO, e_popAt, e_ext, e_clr, e_clrO, e_isB, e_isNB, e_lenS, e_lenSO, e_sc, at_2, at_3, e_cntS, tAsg2, e_other, e_lcEl, e_ins, e_insO, tAugS, e_getL, tChain3, tChain4, e_gLst, e_gLstO, tRvY, e_rvY_s, e_rvY_r, e_stp, tOrW, e_forZ3, e_sameW, tDDef, tDNewT, e_forEz, e_inS, e_ninS, tCBK]
            refine ⟨mulok_0 (by omega) (by omega), ?_⟩
            rw [mul_zeros (by omega), s1, rowS_app hc01 (by simp)]
            have h1a : ∀ x ∈ cs ++ [1], x = 0 ∨ x = 1 := app01 hc01 (by simp)
            rw [rowS_app h1a (rep01' (.inl rfl))]
            refine ⟨?_, _, _, rfl, ?_, app01 h1a (rep01' (.inl rfl)), x11.mono (by omega), k10.chg c11 (by simp), p11⟩
            · rw [row_size h1a, row_size (rep01' (.inl rfl)), List.length_append, List.length_replicate]
              exact Nat.le_trans (show cs.length + [1].length + (1 + le + mo2).toNat ≤ 1000 by simp; omega) (by decide)
            · rw [List.length_append, List.length_append, List.length_replicate, List.length_singleton]; omega
          · rintro σ H10 ⟨cs, s6, rfl, hcl, hc01, x10, k10, p10⟩
            have hi24 : tu.toNat ≤ 24 := by omega
            walk_at "rd"
            refine take_ok x10 p10 (by decide) (sm_of (by decide) (by decide)) (by omega) fun en H11 a11 b11 x11 c11 p11 => ?_
            simp only [L2.start, tSeq, tAsg, tRet, tIfS, tNext, tDrop, tPar, tVar, tC, tOp, tUn, tCall, tCB, tCons, tNil, tTup, tLst, tTest, tNot, tTru, tAnd, tOr, tIf, tAndV, tOrV, tNotX, tB, tSl, tPart, tNoPart, tBX, tBX0, tChain, gName, gCons, gNil, gSub, rI_ii, rI0_ii, rU_i, ex_bl, ex_int, ex_some, ex_two, ex_cons, ex_str, ex_v, nil_and, e_add_ii, e_add_ss, e_add_rr, e_cat, e_mul_ii, e_mul_ri, e_rep, e_ix_s, e_ix_r, e_ixO_l, e_ixO_t, at_0, at_1, e_setX, e_setO_l, e_gTup, e_gTupO, e_len_s, e_len_r, e_lenO_l, e_lenO_t, e_lenO_d, e_abs, e_max, e_min, e_int_i, e_int_b, e_int_s, e_listO_l, e_listO_t, e_divmod, e_all, e_isi, e_eq_ii, e_eq_ss, e_eq_bb, e_ne_ii, e_ne_ss, e_ne_bb, e_tru_n, e_tru_b, e_tru_i, e_tru_s, e_tru_r, e_truO_l, e_truO_t, e_sl_s, e_sl_r, e_slO, e_app, e_appO, e_rev, e_revO, e_tyX_l, e_tyXO_l, e_tyX_s, e_iO_l, e_iO_t, e_upd_same, e_upd_ne, ne_eq, not_false_eq_true, e_isN_n, e_isN_i, e_isN_b, e_isN_s, e_isN_r, e_non, e_tyN_i, e_tyN_b, e_tyN_s, e_tyN_n, e_tyN_r, e_tyO_l, e_tyO_t, e_tyO_d, e_box_turn, e_box_cells, e_box_put, List.map_cons, List.map_nil, List.length_cons, List.length_nil, List.replicate, List.append_nil, List.nil_append, List.cons_append, List.getElem?_cons_zero, List.getElem?_cons_succ, List.set_cons_zero, List.set_cons_succ, Nat.reduceAdd, Nat.reduceSub, ite_t, ite_f, decide_eq_true_eq, reduceIte, true_and, and_true, Bool.not_true, Bool.not_false, m_bool, m_int, m_str, m_list, m_tuple, m_dict, isTab, String.reduceBEq, Bool.and_false, Bool.and_true, Bool.or_false, Bool.false_or, Bool.or_true, Bool.true_or, Bool.false_and, Bool.true_and, decide_true, decide_false, Bool.false_eq_true, reduceCtorEq, e_isi_lt, tAug, e_for, e_forR1, e_forR2, e_forR3, e_sortS, e_addT_ii, e_addT_ss, e_addT_rr, e_catT_l, e_catT_t, e_addW_ii, e_addW_ss, e_addW_rr, e_catW_l, e_catW_t, e_forZ, e_lc, e_lcR1, e_lcR2, e_lcZ, tRv, e_rv, tM1, e_join, e_spl, e_cnt, e_cntO, e_idx, tRaise, tTry, e_forEs, e_mulY_ii, e_mulY_ri, e_mulY_si, tTryS, tTryN, xAsg, xExp, xIf, e_forEl, e_stw, e_maxY_ii, e_maxY_r, e_minY_ii, e_minY_r, e_anyY, e_sumY, tLR1, tLR2, tPar3, ex_three, e_lcEs, e_strY_i, e_listY_r, e_listY_s, e_pop, e_popO, e_popAt, e_ext, e_clr, e_clrO, e_isB, e_isNB, e_lenS, e_lenSO, e_sc, at_2, at_3, e_cntS, tAsg2, e_other, e_lcEl, e_ins, e_insO, tAugS, e_getL, tChain3, tChain4, e_gLst, e_gLstO, tRvY, e_rvY_s, e_rvY_r, e_stp, tOrW, e_forZ3, e_sameW, tDDef, tDNewT, e_forEz, e_inS, e_ninS, tCBK]
            refine ⟨mulok_1 a11 (by omega), ?_⟩
            rw [mul_ones a11, rowS_app hc01 (rep01' (.inr rfl))]
            refine ⟨?_, _, _, _, rfl, ?_, app01 hc01 (rep01' (.inr rfl)), x11.mono (by omega), k10.chg c11 (by simp), p11⟩
            · rw [row_size hc01, row_size (rep01' (.inr rfl)), List.length_replicate]
              exact Nat.le_trans (show cs.length + en.toNat ≤ 1000 by omega) (by decide)
            · rw [List.length_append, List.length_replicate]; omega
        · exact ⟨bs, _, _, rfl, hbl, hb0, x6.mono (by omega), k6, p6⟩
      · rintro σ H7 ⟨bs, s5, s6, rfl, hbl, hb0, x7, k7, p7⟩
        walk_at "rd"
        exact told [b, c] [] p7 k7 fun H2 hch hke hp2 => h bs H2 hbl hb0 (x7.of (hke b (by simp)) (hke c (by simp))) (fun a o ha e => by rw [hch a (by simpa using ha)]; exact e) hp2
    · exact h.elim
theorem ok_law {f : Addr} {fd : FuncData} (F : Fun K "law" "law" s_law f fd) (T : Bl mg) (OB : Ob w K mg) (f_flipped : Fn K mg "flipped" s_flipped p_flipped) (f_press : Fn K mg "press" s_press p_press) (f_pressed : Fn K mg "pressed" s_pressed p_pressed) (f_l_begin : Fn K mg "_law_begin" s_l_begin p_l_begin) (f_l_take : Fn K mg "_law_take" s_l_take p_l_take) (f_l_same : Fn K mg "_law_same" s_l_same p_l_same) (f_l_lowest : Fn K mg "_law_lowest" s_l_lowest p_l_lowest) (f_l_share : Fn K mg "_law_share" s_l_share p_l_share) (f_l_steady : Fn K mg "_law_steady" s_l_steady p_l_steady) (f_l_bits : Fn K mg "_law_bits" s_l_bits p_l_bits) (f_l_some_bits : Fn K mg "_law_some_bits" s_l_some_bits p_l_some_bits) (f_l_step : Fn K mg "_law_step" s_l_step p_l_step) (f_l_pressed : Fn K mg "_law_pressed" s_l_pressed p_l_pressed) (f_l_long : Fn K mg "_law_long" s_l_long p_l_long) : FnOk P w K mg base CX0 10 f fd p_law (spLaw K) := by
  have c_flipped := ok_flipped (P := P) (w := w) (base := base) f_flipped T OB
  have c_press := ok_press f_press T c_flipped
  have c_pressed := ok_pressed f_pressed T c_press
  have c_l_begin := ok_l_begin (P := P) (w := w) (base := base) f_l_begin T
  have c_l_take := ok_l_take (P := P) (w := w) (base := base) f_l_take T
  have c_l_same := ok_l_same (P := P) (w := w) (base := base) f_l_same T 4
  have c_l_lowest := ok_l_lowest (P := P) (w := w) (base := base) f_l_lowest T
  have c_l_share := ok_l_share f_l_share T c_l_take c_l_lowest
  have c_l_steady := ok_l_steady (P := P) (w := w) (base := base) f_l_steady T
  have c_l_bits := ok_l_bits f_l_bits T c_l_take
  have c_l_some_bits := ok_l_some_bits f_l_some_bits T c_l_take c_l_share c_l_steady c_l_bits
  have c_l_step := ok_l_step (P := P) (w := w) (base := base) f_l_step T
  have c_l_pressed := ok_l_pressed f_l_pressed T c_l_step
  have c_l_long := ok_l_long f_l_long T c_l_take c_l_share c_l_steady
  refine okF (k := 9) F sc_law (fun vs H Q E h => ?_) (fun cdv A outer s H vs Q E hr h => ?_)
  · unfold spLaw at h; split at h <;> first | rfl | exact h.elim
  · unfold spLaw at h
    split at h
    · rename_i a
      obtain ⟨ns, hS, hl, hpl, h⟩ := h
      have hu := hu_of hr
      have hu64 := hr.units
      refine ⟨_, (@pss_cons _ _ _ _ _ (@ps_set _ _ (1) _ _ _ _ sc_law.nd rfl (by first | exact Or.inl rfl | exact Or.inr rfl) (@pe_cal _ _ _ _ _ _ _ _ _ _ c_l_begin (hr.mono (by first | decide | omega)) (by rfl) (@pa_cons _ _ _ _ _ (@pv _ 0 _ _ (by rfl) (by first  | exact Or.inl rfl  | exact Or.inr (Or.inl rfl)  | exact Or.inr (Or.inr rfl)) (by decide) (by decide)) pa_nil (by rfl)) (by decide) (by rfl) (by rfl)) (by rfl) (by first  | exact .inl rfl  | exact .inr rfl  | assumption)) (@pss_cons _ _ _ _ _ (@ps_for _ _ _ _ _ _ _ _ PassesOwn.never rfl (@pi_range1 _ _ _ _ _ _ (by rfl) T.b_range (@pa_cons _ _ _ _ _ pe_int pa_nil (by rfl)) (by rfl)) (@pg_name _ _ (2) _ sc_law.nd rfl (by first | exact Or.inl rfl | exact Or.inr rfl) (by first  | exact .inl rfl  | exact .inr rfl  | assumption)) (@pss_cons _ _ _ _ _ (@ps_set _ _ (3) _ _ _ _ sc_law.nd rfl (by first | exact Or.inl rfl | exact Or.inr rfl) (@pe_cmpR _ _ _ _ _ _ _ _ (op_eqK (K := K) rfl hu64) (@pe_cal _ _ _ _ _ _ _ _ _ _ c_l_take (hr.mono (by first | decide | omega)) (by rfl) (@pa_cons _ _ _ _ _ (@pv _ 1 _ _ (by rfl) (by first  | exact Or.inl rfl  | exact Or.inr (Or.inl rfl)  | exact Or.inr (Or.inr rfl)) (by decide) (by decide)) (@pa_cons _ _ _ _ _ pe_int pa_nil (by rfl)) (by rfl)) (by decide) (by rfl) (by rfl)) pe_int (nomark _)) (by rfl) (by first  | exact .inl rfl  | exact .inr rfl  | assumption)) (@pss_consC _ _ _ _ _ (@ps_set _ _ (4) _ _ _ _ sc_law.nd rfl (by first | exact Or.inl rfl | exact Or.inr rfl) (@pe_ifExp _ _ _ _ _ _ _ _ (PW.pt (@pw_and _ _ _ _ _ _ _ (@pt_cmpR _ _ _ _ _ _ _ _ (op_eqK (K := K) rfl hu64) (@pv _ 2 _ _ (by rfl) (by first  | exact Or.inl rfl  | exact Or.inr (Or.inl rfl)  | exact Or.inr (Or.inr rfl)) (by decide) (by decide)) pe_int (nomark _)) (@pw_and1 _ _ _ _ (@pt_cmpR _ _ _ _ _ _ _ _ (op_eqK (K := K) rfl hu64) (@pe_cal _ _ _ _ _ _ _ _ _ _ c_l_take (hr.mono (by first | decide | omega)) (by rfl) (@pa_cons _ _ _ _ _ (@pv _ 1 _ _ (by rfl) (by first  | exact Or.inl rfl  | exact Or.inr (Or.inl rfl)  | exact Or.inr (Or.inr rfl)) (by decide) (by decide)) (@pa_cons _ _ _ _ _ pe_int pa_nil (by rfl)) (by rfl)) (by decide) (by rfl) (by rfl)) pe_int (nomark _))))) (@pe_cal _ _ _ _ _ _ _ _ _ _ c_l_long (hr.mono (by first | decide | omega)) (by rfl) (@pa_cons _ _ _ _ _ (@pv _ 1 _ _ (by rfl) (by first  | exact Or.inl rfl  | exact Or.inr (Or.inl rfl)  | exact Or.inr (Or.inr rfl)) (by decide) (by decide)) pa_nil (by rfl)) (by decide) (by rfl) (by rfl)) (@pe_cal _ _ _ _ _ _ _ _ _ _ c_l_some_bits (hr.mono (by first | decide | omega)) (by rfl) (@pa_cons _ _ _ _ _ (@pv _ 1 _ _ (by rfl) (by first  | exact Or.inl rfl  | exact Or.inr (Or.inl rfl)  | exact Or.inr (Or.inr rfl)) (by decide) (by decide)) (@pa_cons _ _ _ _ _ pe_int pa_nil (by rfl)) (by rfl)) (by decide) (by rfl) (by rfl))) (by rfl) (by first  | exact .inl rfl  | exact .inr rfl  | assumption)) (@pss_consC _ _ _ _ _ (@ps_if _ _ _ _ _ _ _ _ (@pt_truX _ _ _ (@pv _ 3 _ _ (by rfl) (by first  | exact Or.inl rfl  | exact Or.inr (Or.inl rfl)  | exact Or.inr (Or.inr rfl)) (by decide) (by decide)) (by intro _; rfl)) (@pss_one _ _ _ (@ps_set _ _ (4) _ _ _ _ sc_law.nd rfl (by first | exact Or.inl rfl | exact Or.inr rfl) (@pe_joinX _ _ _ _ _ _ _ pe_str (@pe_lc _ _ _ _ _ _ ([("_law_bit", 7)]) _ _ _ _ _ (by rfl) sc_law.nd (@pi_X _ _ _ _ (@pv _ 4 _ _ (by rfl) (by first  | exact Or.inl rfl  | exact Or.inr (Or.inl rfl)  | exact Or.inr (Or.inr rfl)) (by decide) (by decide))) (blkOk_by (own := [("_law_bit", 7)]) (N := ["_law_script", "_law_state", "_law_turn", "_law_flip", "_law_row", "_law_due", "_law_found", "_law_bit"]) (sc := defScope s_law) (by decide +kernel)) (fun _ _ _ _ _ => (@pg_name _ _ (7) _ sc_law.nd rfl (by first | exact Or.inl rfl | exact Or.inr rfl) (by first  | exact .inl rfl  | exact .inr rfl  | assumption))) (fun _ _ _ _ _ => pts_nil) (fun _ _ _ _ _ => (@pe_ixX _ _ _ _ _ _ hu pe_str (@pe_callTy _ _ _ _ _ _ _ _ _ call_intX (by rfl) T.b_int bt_int (@pa_cons _ _ _ _ _ (@pv _ 7 _ _ (by rfl) (by first  | exact Or.inl rfl  | exact Or.inr (Or.inl rfl)  | exact Or.inr (Or.inr rfl)) (by decide) (by decide)) pa_nil (by rfl)) (by decide) (by decide) (by rfl) (by rfl)) (fun _ _ => rfl))) (by intro _; rfl)) (by rfl) (by rfl) (by rfl)) (by rfl) (by first  | exact .inl rfl  | exact .inr rfl  | assumption))) pss_nil) (@pss_cons _ _ _ _ _ (@ps_set _ _ (5) _ _ _ _ sc_law.nd rfl (by first | exact Or.inl rfl | exact Or.inr rfl) (@pe_cal _ _ _ _ _ _ _ _ _ _ c_l_pressed (hr.mono (by first | decide | omega)) (by rfl) (@pa_cons _ _ _ _ _ (@pv _ 4 _ _ (by rfl) (by first  | exact Or.inl rfl  | exact Or.inr (Or.inl rfl)  | exact Or.inr (Or.inr rfl)) (by decide) (by decide)) pa_nil (by rfl)) (by decide) (by rfl) (by rfl)) (by rfl) (by first  | exact .inl rfl  | exact .inr rfl  | assumption)) (@pss_cons _ _ _ _ _ (@ps_set _ _ (6) _ _ _ _ sc_law.nd rfl (by first | exact Or.inl rfl | exact Or.inr rfl) (@pe_cal _ _ _ _ _ _ _ _ _ _ c_pressed (hr.mono (by first | decide | omega)) (by rfl) (@pa_cons _ _ _ _ _ (@pv _ 4 _ _ (by rfl) (by first  | exact Or.inl rfl  | exact Or.inr (Or.inl rfl)  | exact Or.inr (Or.inr rfl)) (by decide) (by decide)) pa_nil (by rfl)) (by decide) (by rfl) (by rfl)) (by rfl) (by first  | exact .inl rfl  | exact .inr rfl  | assumption)) (@pss_cons _ _ _ _ _ (@ps_if _ _ _ _ _ _ _ _ (@pt_not _ _ _ _ (@pt_truX _ _ _ (@pe_cal _ _ _ _ _ _ _ _ _ _ c_l_same (hr.mono (by first | decide | omega)) (by rfl) (@pa_cons _ _ _ _ _ (@pv _ 6 _ _ (by rfl) (by first  | exact Or.inl rfl  | exact Or.inr (Or.inl rfl)  | exact Or.inr (Or.inr rfl)) (by decide) (by decide)) (@pa_cons _ _ _ _ _ (@pv _ 5 _ _ (by rfl) (by first  | exact Or.inl rfl  | exact Or.inr (Or.inl rfl)  | exact Or.inr (Or.inr rfl)) (by decide) (by decide)) pa_nil (by rfl)) (by rfl)) (by decide) (by rfl) (by rfl)) (by intro _; rfl))) (@pss_one _ _ _ (@ps_ret _ _ _ _ pe_bl)) pss_nil) (@pss_cons _ _ _ _ _ (@ps_expr _ _ _ _ (@pe_bmX0 _ _ _ _ _ _ _ _ _ PySem.F.plainAttrs_list PySem.F.slot_list_reverse PySem.F.type_list_reverse mt_revX (@pe_ixX _ _ _ _ _ _ hu (@pv _ 6 _ _ (by rfl) (by first  | exact Or.inl rfl  | exact Or.inr (Or.inl rfl)  | exact Or.inr (Or.inr rfl)) (by decide) (by decide)) pe_int (fun _ _ => rfl)) (by rfl) (by rfl)) (by rfl)) (@pss_cons _ _ _ _ _ (@ps_expr _ _ _ _ (@pe_bmX _ _ _ _ _ _ _ _ _ _ _ _ PySem.F.plainAttrs_list PySem.F.slot_list_append PySem.F.type_list_append mt_appX (@pe_ixX _ _ _ _ _ _ hu (@pv _ 6 _ _ (by rfl) (by first  | exact Or.inl rfl  | exact Or.inr (Or.inl rfl)  | exact Or.inr (Or.inr rfl)) (by decide) (by decide)) pe_int (fun _ _ => rfl)) (@pa_cons _ _ _ _ _ (@pe_tup _ _ _ _ _ (@pa_cons _ _ _ _ _ pe_int (@pa_cons _ _ _ _ _ pe_int (@pa_cons _ _ _ _ _ pe_int (@pa_cons _ _ _ _ _ pe_int pa_nil (by rfl)) (by rfl)) (by rfl)) (by rfl))) pa_nil (by rfl)) (by rfl) (by rfl) (by rfl) (by rfl) (by rfl)) (by rfl)) (@pss_one _ _ _ (@ps_if _ _ _ _ _ _ _ _ (@pt_not _ _ _ _ (@pt_truX _ _ _ (@pe_cal _ _ _ _ _ _ _ _ _ _ c_l_same (hr.mono (by first | decide | omega)) (by rfl) (@pa_cons _ _ _ _ _ (@pe_cal _ _ _ _ _ _ _ _ _ _ c_pressed (hr.mono (by first | decide | omega)) (by rfl) (@pa_cons _ _ _ _ _ (@pv _ 4 _ _ (by rfl) (by first  | exact Or.inl rfl  | exact Or.inr (Or.inl rfl)  | exact Or.inr (Or.inr rfl)) (by decide) (by decide)) pa_nil (by rfl)) (by decide) (by rfl) (by rfl)) (@pa_cons _ _ _ _ _ (@pv _ 5 _ _ (by rfl) (by first  | exact Or.inl rfl  | exact Or.inr (Or.inl rfl)  | exact Or.inr (Or.inr rfl)) (by decide) (by decide)) pa_nil (by rfl)) (by rfl)) (by decide) (by rfl) (by rfl)) (by intro _; rfl))) (@pss_one _ _ _ (@ps_ret _ _ _ _ pe_bl)) pss_nil)))))))))) (by intro _; rfl)) (@pss_one _ _ _ (@ps_ret _ _ _ _ pe_bl)))), ?_⟩
      clear c_flipped c_press c_pressed c_l_begin c_l_take c_l_same c_l_lowest c_l_share c_l_steady c_l_bits c_l_some_bits c_l_step c_l_pressed c_l_long f_flipped f_press f_pressed f_l_begin f_l_take f_l_same f_l_lowest f_l_share f_l_steady f_l_bits f_l_some_bits f_l_step f_l_pressed f_l_long hu hu64 hr F T OB
      walk_at "rd"
      refine begin_ok hS hl hpl fun b c H1 hb hc x0 c0 p0 => ?_
      walk_at "rd"
      refine forR_ok (by omega) (by omega) (fun i σ H' => ∃ s2 s3 s4 s5 s6 s7, σ = [some (.ref a), some (.ref b), s2, s3, s4, s5, s6, s7] ∧ Box H' b c (1000 * i) ∧ Pl H') ⟨_, _, _, _, _, _, rfl, x0.mono (by omega), p0⟩ ?_ ?_
      · clear x0 c0 p0 hb hc hS hl hpl
        rintro i σ H1 hi ⟨s2, s3, s4, s5, s6, s7, rfl, x1, p1⟩
        have hi3 : i < 6 := hi
        walk_at "rd"
        refine take_ok x1 p1 (by decide) (sm_of (by decide) (by decide)) (by omega) fun way H2 a2 b2 x2 c2 p2 => ?_
        clear c2 x1 p1
        walk_at "rd"
        refine e_cut (fun σ' H' => ∃ (bs : List Int) (s5 s6 s7 : Option V), σ' = [some (.ref a), some (.ref b), some (.int (i : Int)), some (.bl (decide (way = 0))), some (.str (rowS bs)), s5, s6, s7] ∧ bs.length ≤ 401 ∧ (∀ x ∈ bs, x = 0 ∨ x = 1) ∧ Box H' b c (1000 * i + 900) ∧ Pl H') ?_ ?_
        · walk_at "rd"
          have key : ∀ H3, Box H3 b c (1000 * i + 10) → Pl H3 → spSomeB [.ref b, .int 40] H3 (fun x H1 => ∃ bs s5_1 s6_1 s7_1, [some (V.ref a), some (V.ref b), some (V.int (i : Int)), some (V.bl (decide (way = 0))), some x, s5, s6, s7] = [some (V.ref a), some (V.ref b), some (V.int (i : Int)), some (V.bl (decide (way = 0))), some (V.str (rowS bs)), s5_1, s6_1, s7_1] ∧ bs.length ≤ 401 ∧ (∀ x ∈ bs, x = 0 ∨ x = 1) ∧ Box H1 b c (1000 * i + 900) ∧ Pl H1) E0 := fun H3 x3 p3 => someB_ok x3 p3 (by omega) (by omega) (by omega) fun bs H4 hl4 h014 x4 _ p4 => ⟨bs, _, _, _, rfl, by omega, h014, x4.mono (by omega), p4⟩
          split
          · refine take_ok x2 p2 (by decide) (sm_of (by decide) (by decide)) (by omega) fun q H3 a3 b3 x3 c3 p3 => ?_
            walk_at "rd"
            split
            · exact long63_ok x3 p3 (by omega) fun bs H4 hl4 h014 x4 _ p4 => ⟨bs, _, _, _, rfl, hl4, h014, x4.mono (by omega), p4⟩
            · exact key H3 (x3.mono (by omega)) p3
          · exact key H2 (x2.mono (by omega)) p2
        clear x2 p2
        rintro σ H3 ⟨bs, s5', s6', s7', rfl, hbl, h01, x3, p3⟩
        refine e_cut (fun σ' H' => ∃ (bs : List Int) (s7 : Option V), σ' = [some (.ref a), some (.ref b), some (.int (i : Int)), some (.bl (decide (way = 0))), some (.str (rowS bs)), s5', s6', s7] ∧ bs.length ≤ 401 ∧ (∀ x ∈ bs, x = 0 ∨ x = 1) ∧ Box H' b c (1000 * i + 900) ∧ Pl H') ?_ ?_
        · walk_at "rd"
          split
          · refine ⟨⟨_, rfl⟩, ?_⟩
            have hsz : (rowS bs).cps.size = bs.length := row_size h01
            refine lcB_str (fun D i H' => H' D = some (.lst (((flipL (bs.take i)).map fun b => (Str.ofString (toString b))).map V.str)) ∧ Kp [] H3 H' ∧ Pl H') (fun D hD => ⟨upd_same, (Kp.refl _ _).new hD, p3.upd rfl⟩) ?_ ?_
            · rintro D j ch H4 hD hc ⟨gD, k4, p4⟩
              obtain ⟨v, hbi, hb1, eb⟩ := row_sign h01 hc
              have hil : j < bs.length := (List.getElem?_eq_some_iff.mp hbi).1
              obtain ⟨d, hd, ed⟩ := other_bit hb1
              rw [eb]
              simp only [turnC, wipe, tYes, L2.start, tSeq, tAsg, tRet, tIfS, tNext, tDrop, tPar, tVar, tC, tOp, tUn, tCall, tCB, tCons, tNil, tTup, tLst, tTest, tNot, tTru, tAnd, tOr, tIf, tAndV, tOrV, tNotX, tB, tSl, tPart, tNoPart, tBX, tBX0, tChain, gName, gCons, gNil, gSub, rI_ii, rI0_ii, rU_i, ex_bl, ex_int, ex_some, ex_two, ex_cons, ex_str, ex_v, nil_and, e_add_ii, e_add_ss, e_add_rr, e_cat, e_mul_ii, e_mul_ri, e_rep, e_ix_s, e_ix_r, e_ixO_l, e_ixO_t, at_0, at_1, e_setX, e_setO_l, e_gTup, e_gTupO, e_len_s, e_len_r, e_lenO_l, e_lenO_t, e_lenO_d, e_abs, e_max, e_min, e_int_i, e_int_b, e_int_s, e_listO_l, e_listO_t, e_divmod, e_all, e_isi, e_eq_ii, e_eq_ss, e_eq_bb, e_ne_ii, e_ne_ss, e_ne_bb, e_tru_n, e_tru_b, e_tru_i, e_tru_s, e_tru_r, e_truO_l, e_truO_t, e_sl_s, e_sl_r, e_slO, e_app, e_appO, e_rev, e_revO, e_tyX_l, e_tyXO_l, e_tyX_s, e_iO_l, e_iO_t, e_upd_same, e_upd_ne, ne_eq, not_false_eq_true, e_isN_n, e_isN_i, e_isN_b, e_isN_s, e_isN_r, e_non, e_tyN_i, e_tyN_b, e_tyN_s, e_tyN_n, e_tyN_r, e_tyO_l, e_tyO_t, e_tyO_d, e_box_turn, e_box_cells, e_box_put, List.map_cons, List.map_nil, List.length_cons, List.length_nil, List.replicate, List.append_nil, List.nil_append, List.cons_append, List.getElem?_cons_zero, List.getElem?_cons_succ, List.set_cons_zero, List.set_cons_succ, Nat.reduceAdd, Nat.reduceSub, ite_t, ite_f, decide_eq_true_eq, reduceIte, true_and, and_true, Bool.not_true, Bool.not_false, m_bool, m_int, m_str, m_list, m_tuple, m_dict, isTab, String.reduceBEq, Bool.and_false, Bool.and_true, Bool.or_false, Bool.false_or, Bool.or_true, Bool.true_or, Bool.false_and, Bool.true_and, decide_true, decide_false, Bool.false_eq_true, reduceCtorEq, e_isi_lt, tAug, e_for, e_forR1, e_forR2, e_forR3, e_sortS, e_addT_ii, e_addT_ss, e_addT_rr, e_catT_l, e_catT_t, e_addW_ii, e_addW_ss, e_addW_rr, e_catW_l, e_catW_t, e_forZ, e_lc, e_lcR1, e_lcR2, e_lcZ, tRv, e_rv, tM1, e_join, e_spl, e_cnt, e_cntO, e_idx, tRaise, tTry, e_forEs, e_mulY_ii, e_mulY_ri, e_mulY_si, tTryS, tTryN, xAsg, xExp, xIf, e_forEl, e_stw, e_maxY_ii, e_maxY_r, e_minY_ii, e_minY_r, e_anyY, e_sumY, tLR1, tLR2, tPar3, ex_three, e_lcEs, e_strY_i, e_listY_r, e_listY_s, e_pop, e_popO, e_popAt, e_ext, e_clr, e_clrO, e_isB, e_isNB, e_lenS, e_lenSO, e_sc, at_2, at_3, e_cntS, tAsg2, e_other, e_lcEl, e_ins, e_insO, tAugS, e_getL, tChain3, tChain4, e_gLst, e_gLstO, tRvY, e_rvY_s, e_rvY_r, e_stp, tOrW, e_forZ3, e_sameW, tDDef, tDNewT, e_forEz, e_inS, e_ninS, tCBK]
              have hz : PySem.intText? (rowS [v]) = some v := by rw [row1_str hb1]; exact (int_bit hb1).1
              refine ⟨v, hz, by rw [row_size (by simpa using hb1)]; show 1 ≤ 640; decide, by decide, d, hd, _, gD, ?_, ?_, k4.upd (.inr hD), p4.upd rfl⟩
              · rw [List.length_map, List.length_map, flip_len, List.length_take]; exact Nat.lt_of_lt_of_le (show min j bs.length < 20001 by omega) (by decide)
              · have : (1 - v = 0 ∨ 1 - v = 1) := by omega
                rw [ed, row1_str this]
                unfold flipL; rw [take_snoc hbi, List.map_append, List.map_append, List.map_append]; rfl
            · rintro D H4 hD ⟨gD, k4, p4⟩
              rw [hsz, List.take_length] at gD
              refine ⟨_, gD, ?_, ?_⟩
              · rw [row_len _ (flip01 h01), List.length_map, flip_len]
                show bs.length + bs.length * 0 ≤ 16777216
                omega
              · exact ⟨flipL bs, _, rfl, by rw [flip_len]; exact hbl, flip01 h01, x3.kp k4, p4⟩
          · exact ⟨bs, _, rfl, hbl, h01, x3, p3⟩
        clear hbl h01 x3 p3 bs
        rintro σ H4 ⟨bs, s7'', rfl, hbl, h01, x4, p4⟩
        walk_at "rd"
        refine pressed_ok h01 (by omega) p4 fun ss core hP hn p l rs H5 np nl npl gp gl S5 k5 p5 => ?_
        have hss := hP.len h01
        refine pressed_ok h01 (by omega) p5 fun ss' core' hP' hn' p' l' rs' H6 np' nl' npl' gp' gl' S6 k6 p6 => ?_
        obtain ⟨rfl, rfl⟩ := hP.det hn hP' hn'
        have gp6 := k6 p _ (by simp) gp
        have gl6 := k6 l _ (by simp) gl
        have S56 := S5.kp k6
        simp only [L2.start, tSeq, tAsg, tRet, tIfS, tNext, tDrop, tPar, tVar, tC, tOp, tUn, tCall, tCB, tCons, tNil, tTup, tLst, tTest, tNot, tTru, tAnd, tOr, tIf, tAndV, tOrV, tNotX, tB, tSl, tPart, tNoPart, tBX, tBX0, tChain, gName, gCons, gNil, gSub, rI_ii, rI0_ii, rU_i, ex_bl, ex_int, ex_some, ex_two, ex_cons, ex_str, ex_v, nil_and, e_add_ii, e_add_ss, e_add_rr, e_cat, e_mul_ii, e_mul_ri, e_rep, e_ix_s, e_ix_r, e_ixO_l, e_ixO_t, at_0, at_1, e_setX, e_setO_l, e_gTup, e_gTupO, e_len_s, e_len_r, e_lenO_l, e_lenO_t, e_lenO_d, e_abs, e_max, e_min, e_int_i, e_int_b, e_int_s, e_listO_l, e_listO_t, e_divmod, e_all, e_isi, e_eq_ii, e_eq_ss, e_eq_bb, e_ne_ii, e_ne_ss, e_ne_bb, e_tru_n, e_tru_b, e_tru_i, e_tru_s, e_tru_r, e_truO_l, e_truO_t, e_sl_s, e_sl_r, e_slO, e_app, e_appO, e_rev, e_revO, e_tyX_l, e_tyXO_l, e_tyX_s, e_iO_l, e_iO_t, e_upd_same, e_upd_ne, ne_eq, not_false_eq_true, e_isN_n, e_isN_i, e_isN_b, e_isN_s, e_isN_r, e_non, e_tyN_i, e_tyN_b, e_tyN_s, e_tyN_n, e_tyN_r, e_tyO_l, e_tyO_t, e_tyO_d, e_box_turn, e_box_cells, e_box_put, List.map_cons, List.map_nil, List.length_cons, List.length_nil, List.replicate, List.append_nil, List.nil_append, List.cons_append, List.getElem?_cons_zero, List.getElem?_cons_succ, List.set_cons_zero, List.set_cons_succ, Nat.reduceAdd, Nat.reduceSub, ite_t, ite_f, decide_eq_true_eq, reduceIte, true_and, and_true, Bool.not_true, Bool.not_false, m_bool, m_int, m_str, m_list, m_tuple, m_dict, isTab, String.reduceBEq, Bool.and_false, Bool.and_true, Bool.or_false, Bool.false_or, Bool.or_true, Bool.true_or, Bool.false_and, Bool.true_and, decide_true, decide_false, Bool.false_eq_true, reduceCtorEq, e_isi_lt, tAug, e_for, e_forR1, e_forR2, e_forR3, e_sortS, e_addT_ii, e_addT_ss, e_addT_rr, e_catT_l, e_catT_t, e_addW_ii, e_addW_ss, e_addW_rr, e_catW_l, e_catW_t, e_forZ, e_lc, e_lcR1, e_lcR2, e_lcZ, tRv, e_rv, tM1, e_join, e_spl, e_cnt, e_cntO, e_idx, tRaise, tTry, e_forEs, e_mulY_ii, e_mulY_ri, e_mulY_si, tTryS, tTryN, xAsg, xExp, xIf, e_forEl, e_stw, e_maxY_ii, e_maxY_r, e_minY_ii, e_minY_r, e_anyY, e_sumY, tLR1, tLR2, tPar3, ex_three, e_lcEs, e_strY_i, e_listY_r, e_listY_s, e_pop, e_popO, e_popAt, e_ext, e_clr, e_clrO, e_isB, e_isNB, e_lenS, e_lenSO, e_sc, at_2, at_3, e_cntS, tAsg2, e_other, e_lcEl, e_ins, e_insO, tAugS, e_getL, tChain3, tChain4, e_gLst, e_gLstO, tRvY, e_rvY_s, e_rvY_r, e_stp, tOrW, e_forZ3, e_sameW, tDDef, tDNewT, e_forEz, e_inS, e_ninS, tCBK]
        refine same4_ok (press_sm gp' gp6 gl' gl6 S6 S56 (by omega)) p6 ?_
        simp only [L2.start, tSeq, tAsg, tRet, tIfS, tNext, tDrop, tPar, tVar, tC, tOp, tUn, tCall, tCB, tCons, tNil, tTup, tLst, tTest, tNot, tTru, tAnd, tOr, tIf, tAndV, tOrV, tNotX, tB, tSl, tPart, tNoPart, tBX, tBX0, tChain, gName, gCons, gNil, gSub, rI_ii, rI0_ii, rU_i, ex_bl, ex_int, ex_some, ex_two, ex_cons, ex_str, ex_v, nil_and, e_add_ii, e_add_ss, e_add_rr, e_cat, e_mul_ii, e_mul_ri, e_rep, e_ix_s, e_ix_r, e_ixO_l, e_ixO_t, at_0, at_1, e_setX, e_setO_l, e_gTup, e_gTupO, e_len_s, e_len_r, e_lenO_l, e_lenO_t, e_lenO_d, e_abs, e_max, e_min, e_int_i, e_int_b, e_int_s, e_listO_l, e_listO_t, e_divmod, e_all, e_isi, e_eq_ii, e_eq_ss, e_eq_bb, e_ne_ii, e_ne_ss, e_ne_bb, e_tru_n, e_tru_b, e_tru_i, e_tru_s, e_tru_r, e_truO_l, e_truO_t, e_sl_s, e_sl_r, e_slO, e_app, e_appO, e_rev, e_revO, e_tyX_l, e_tyXO_l, e_tyX_s, e_iO_l, e_iO_t, e_upd_same, e_upd_ne, ne_eq, not_false_eq_true, e_isN_n, e_isN_i, e_isN_b, e_isN_s, e_isN_r, e_non, e_tyN_i, e_tyN_b, e_tyN_s, e_tyN_n, e_tyN_r, e_tyO_l, e_tyO_t, e_tyO_d, e_box_turn, e_box_cells, e_box_put, List.map_cons, List.map_nil, List.length_cons, List.length_nil, List.replicate, List.append_nil, List.nil_append, List.cons_append, List.getElem?_cons_zero, List.getElem?_cons_succ, List.set_cons_zero, List.set_cons_succ, Nat.reduceAdd, Nat.reduceSub, ite_t, ite_f, decide_eq_true_eq, reduceIte, true_and, and_true, Bool.not_true, Bool.not_false, m_bool, m_int, m_str, m_list, m_tuple, m_dict, isTab, String.reduceBEq, Bool.and_false, Bool.and_true, Bool.or_false, Bool.false_or, Bool.or_true, Bool.true_or, Bool.false_and, Bool.true_and, decide_true, decide_false, Bool.false_eq_true, reduceCtorEq, e_isi_lt, tAug, e_for, e_forR1, e_forR2, e_forR3, e_sortS, e_addT_ii, e_addT_ss, e_addT_rr, e_catT_l, e_catT_t, e_addW_ii, e_addW_ss, e_addW_rr, e_catW_l, e_catW_t, e_forZ, e_lc, e_lcR1, e_lcR2, e_lcZ, tRv, e_rv, tM1, e_join, e_spl, e_cnt, e_cntO, e_idx, tRaise, tTry, e_forEs, e_mulY_ii, e_mulY_ri, e_mulY_si, tTryS, tTryN, xAsg, xExp, xIf, e_forEl, e_stw, e_maxY_ii, e_maxY_r, e_minY_ii, e_minY_r, e_anyY, e_sumY, tLR1, tLR2, tPar3, ex_three, e_lcEs, e_strY_i, e_listY_r, e_listY_s, e_pop, e_popO, e_popAt, e_ext, e_clr, e_clrO, e_isB, e_isNB, e_lenS, e_lenSO, e_sc, at_2, at_3, e_cntS, tAsg2, e_other, e_lcEl, e_ins, e_insO, tAugS, e_getL, tChain3, tChain4, e_gLst, e_gLstO, tRvY, e_rvY_s, e_rvY_r, e_stp, tOrW, e_forZ3, e_sameW, tDDef, tDNewT, e_forEz, e_inS, e_ninS, tCBK, gp', gl']
        have x5 := x4.kp k5
        obtain ⟨nb, nc⟩ := x5.ne_new nl'
        have nlp : p ≠ l' := ne_of_none gp nl'
        have nll : l ≠ l' := ne_of_none gl nl'
        have x7 : Box (upd H6 l' (.lst (rs'.map V.ref).reverse)) b c (1000 * i + 900) := (x5.kp k6).upd nb nc
        have p7 : Pl (upd H6 l' (.lst (rs'.map V.ref).reverse)) := p6.upd rfl
        have gp7 : upd H6 l' (.lst (rs'.map V.ref).reverse) p = _ := (upd_ne nlp).trans gp6
        have gl7 : upd H6 l' (.lst (rs'.map V.ref).reverse) l = _ := (upd_ne nll).trans gl6
        have S7 : StepsH (upd H6 l' (.lst (rs'.map V.ref).reverse)) rs _ := S56.updL gl'
        have gp7' : upd H6 l' (.lst (rs'.map V.ref).reverse) p' = _ := (upd_ne npl').trans gp'
        have gl7' : upd H6 l' (.lst (rs'.map V.ref).reverse) l' = _ := upd_same
        generalize upd H6 l' (.lst (rs'.map V.ref).reverse) = H7 at x7 p7 gp7 gl7 S7 gp7' gl7' ⊢
        simp only [L2.start, tSeq, tAsg, tRet, tIfS, tNext, tDrop, tPar, tVar, tC, tOp, tUn, tCall, tCB, tCons, tNil, tTup, tLst, tTest, tNot, tTru, tAnd, tOr, tIf, tAndV, tOrV, tNotX, tB, tSl, tPart, tNoPart, tBX, tBX0, tChain, gName, gCons, gNil, gSub, rI_ii, rI0_ii, rU_i, ex_bl, ex_int, ex_some, ex_two, ex_cons, ex_str, ex_v, nil_and, e_add_ii, e_add_ss, e_add_rr, e_cat, e_mul_ii, e_mul_ri, e_rep, e_ix_s, e_ix_r, e_ixO_l, e_ixO_t, at_0, at_1, e_setX, e_setO_l, e_gTup, e_gTupO, e_len_s, e_len_r, e_lenO_l, e_lenO_t, e_lenO_d, e_abs, e_max, e_min, e_int_i, e_int_b, e_int_s, e_listO_l, e_listO_t, e_divmod, e_all, e_isi, e_eq_ii, e_eq_ss, e_eq_bb, e_ne_ii, e_ne_ss, e_ne_bb, e_tru_n, e_tru_b, e_tru_i, e_tru_s, e_tru_r, e_truO_l, e_truO_t, e_sl_s, e_sl_r, e_slO, e_app, e_appO, e_rev, e_revO, e_tyX_l, e_tyXO_l, e_tyX_s, e_iO_l, e_iO_t, e_upd_same, e_upd_ne, ne_eq, not_false_eq_true, e_isN_n, e_isN_i, e_isN_b, e_isN_s, e_isN_r, e_non, e_tyN_i, e_tyN_b, e_tyN_s, e_tyN_n, e_tyN_r, e_tyO_l, e_tyO_t, e_tyO_d, e_box_turn, e_box_cells, e_box_put, List.map_cons, List.map_nil, List.length_cons, List.length_nil, List.replicate, List.append_nil, List.nil_append, List.cons_append, List.getElem?_cons_zero, List.getElem?_cons_succ, List.set_cons_zero, List.set_cons_succ, Nat.reduceAdd, Nat.reduceSub, ite_t, ite_f, decide_eq_true_eq, reduceIte, true_and, and_true, Bool.not_true, Bool.not_false, m_bool, m_int, m_str, m_list, m_tuple, m_dict, isTab, String.reduceBEq, Bool.and_false, Bool.and_true, Bool.or_false, Bool.false_or, Bool.or_true, Bool.true_or, Bool.false_and, Bool.true_and, decide_true, decide_false, Bool.false_eq_true, reduceCtorEq, e_isi_lt, tAug, e_for, e_forR1, e_forR2, e_forR3, e_sortS, e_addT_ii, e_addT_ss, e_addT_rr, e_catT_l, e_catT_t, e_addW_ii, e_addW_ss, e_addW_rr, e_catW_l, e_catW_t, e_forZ, e_lc, e_lcR1, e_lcR2, e_lcZ, tRv, e_rv, tM1, e_join, e_spl, e_cnt, e_cntO, e_idx, tRaise, tTry, e_forEs, e_mulY_ii, e_mulY_ri, e_mulY_si, tTryS, tTryN, xAsg, xExp, xIf, e_forEl, e_stw, e_maxY_ii, e_maxY_r, e_minY_ii, e_minY_r, e_anyY, e_sumY, tLR1, tLR2, tPar3, ex_three, e_lcEs, e_strY_i, e_listY_r, e_listY_s, e_pop, e_popO, e_popAt, e_ext, e_clr, e_clrO, e_isB, e_isNB, e_lenS, e_lenSO, e_sc, at_2, at_3, e_cntS, tAsg2, e_other, e_lcEl, e_ins, e_insO, tAugS, e_getL, tChain3, tChain4, e_gLst, e_gLstO, tRvY, e_rvY_s, e_rvY_r, e_stp, tOrW, e_forZ3, e_sameW, tDDef, tDNewT, e_forEz, e_inS, e_ninS, tCBK, gp7', gl7']
        refine ⟨by decide, fun q nq => ?_⟩
        generalize hE : upd H7 q _ = H8
        have e8 := kp_of hE nq; have p8 := pl_of hE p7 rfl; clear hE
        have gl8' := e8.at' gl7'
        simp only [L2.start, tSeq, tAsg, tRet, tIfS, tNext, tDrop, tPar, tVar, tC, tOp, tUn, tCall, tCB, tCons, tNil, tTup, tLst, tTest, tNot, tTru, tAnd, tOr, tIf, tAndV, tOrV, tNotX, tB, tSl, tPart, tNoPart, tBX, tBX0, tChain, gName, gCons, gNil, gSub, rI_ii, rI0_ii, rU_i, ex_bl, ex_int, ex_some, ex_two, ex_cons, ex_str, ex_v, nil_and, e_add_ii, e_add_ss, e_add_rr, e_cat, e_mul_ii, e_mul_ri, e_rep, e_ix_s, e_ix_r, e_ixO_l, e_ixO_t, at_0, at_1, e_setX, e_setO_l, e_gTup, e_gTupO, e_len_s, e_len_r, e_lenO_l, e_lenO_t, e_lenO_d, e_abs, e_max, e_min, e_int_i, e_int_b, e_int_s, e_listO_l, e_listO_t, e_divmod, e_all, e_isi, e_eq_ii, e_eq_ss, e_eq_bb, e_ne_ii, e_ne_ss, e_ne_bb, e_tru_n, e_tru_b, e_tru_i, e_tru_s, e_tru_r, e_truO_l, e_truO_t, e_sl_s, e_sl_r, e_slO, e_app, e_appO, e_rev, e_revO, e_tyX_l, e_tyXO_l, e_tyX_s, e_iO_l, e_iO_t, e_upd_same, e_upd_ne, ne_eq, not_false_eq_true, e_isN_n, e_isN_i, e_isN_b, e_isN_s, e_isN_r, e_non, e_tyN_i, e_tyN_b, e_tyN_s, e_tyN_n, e_tyN_r, e_tyO_l, e_tyO_t, e_tyO_d, e_box_turn, e_box_cells, e_box_put, List.map_cons, List.map_nil, List.length_cons, List.length_nil, List.replicate, List.append_nil, List.nil_append, List.cons_append, List.getElem?_cons_zero, List.getElem?_cons_succ, List.set_cons_zero, List.set_cons_succ, Nat.reduceAdd, Nat.reduceSub, ite_t, ite_f, decide_eq_true_eq, reduceIte, true_and, and_true, Bool.not_true, Bool.not_false, m_bool, m_int, m_str, m_list, m_tuple, m_dict, isTab, String.reduceBEq, Bool.and_false, Bool.and_true, Bool.or_false, Bool.false_or, Bool.or_true, Bool.true_or, Bool.false_and, Bool.true_and, decide_true, decide_false, Bool.false_eq_true, reduceCtorEq, e_isi_lt, tAug, e_for, e_forR1, e_forR2, e_forR3, e_sortS, e_addT_ii, e_addT_ss, e_addT_rr, e_catT_l, e_catT_t, e_addW_ii, e_addW_ss, e_addW_rr, e_catW_l, e_catW_t, e_forZ, e_lc, e_lcR1, e_lcR2, e_lcZ, tRv, e_rv, tM1, e_join, e_spl, e_cnt, e_cntO, e_idx, tRaise, tTry, e_forEs, e_mulY_ii, e_mulY_ri, e_mulY_si, tTryS, tTryN, xAsg, xExp, xIf, e_forEl, e_stw, e_maxY_ii, e_maxY_r, e_minY_ii, e_minY_r, e_anyY, e_sumY, tLR1, tLR2, tPar3, ex_three, e_lcEs, e_strY_i, e_listY_r, e_listY_s, e_pop, e_popO, e_popAt, e_ext, e_clr, e_clrO, e_isB, e_isNB, e_lenS, e_lenSO, e_sc, at_2, at_3, e_cntS, tAsg2, e_other, e_lcEl, e_ins, e_insO, tAugS, e_getL, tChain3, tChain4, e_gLst, e_gLstO, tRvY, e_rvY_s, e_rvY_r, e_stp, tOrW, e_forZ3, e_sameW, tDDef, tDNewT, e_forEz, e_inS, e_ninS, tCBK, gl8']
        refine ⟨by rw [List.length_reverse, List.length_map, S6.1]; exact Nat.lt_of_le_of_lt (show _ ≤ 20000 by omega) (by decide), ?_⟩
        have x9 := ((x7.kp e8).upd (o := .lst ((rs'.map V.ref).reverse ++ [V.ref q])) nb nc)
        have gp9 := (upd_ne (H := H8) (o := .lst ((rs'.map V.ref).reverse ++ [V.ref q])) nlp).trans (e8.at' gp7)
        have gl9 := (upd_ne (H := H8) (o := .lst ((rs'.map V.ref).reverse ++ [V.ref q])) nll).trans (e8.at' gl7)
        have S9 := (S7.kp e8).updL (o := .lst ((rs'.map V.ref).reverse ++ [V.ref q])) gl8'
        have p9 := p8.upd (p := l') (o := .lst ((rs'.map V.ref).reverse ++ [V.ref q])) rfl
        generalize upd H8 l' (.lst ((rs'.map V.ref).reverse ++ [V.ref q])) = H9 at x9 gp9 gl9 S9 p9 ⊢
        refine pressed_ok h01 (by omega) p9 fun ss2 core2 hP2 hn2 p2' l2' rs2' H10 np2' nl2' npl2' gp2' gl2' S10 k10 p10 => ?_
        obtain ⟨rfl, rfl⟩ := hP.det hn hP2 hn2
        refine same4_ok (press_sm gp2' (k10 p _ (by simp) gp9) gl2' (k10 l _ (by simp) gl9) S10 (S9.kp k10) (by omega)) p10 ?_
        simp only [L2.start, tSeq, tAsg, tRet, tIfS, tNext, tDrop, tPar, tVar, tC, tOp, tUn, tCall, tCB, tCons, tNil, tTup, tLst, tTest, tNot, tTru, tAnd, tOr, tIf, tAndV, tOrV, tNotX, tB, tSl, tPart, tNoPart, tBX, tBX0, tChain, gName, gCons, gNil, gSub, rI_ii, rI0_ii, rU_i, ex_bl, ex_int, ex_some, ex_two, ex_cons, ex_str, ex_v, nil_and, e_add_ii, e_add_ss, e_add_rr, e_cat, e_mul_ii, e_mul_ri, e_rep, e_ix_s, e_ix_r, e_ixO_l, e_ixO_t, at_0, at_1, e_setX, e_setO_l, e_gTup, e_gTupO, e_len_s, e_len_r, e_lenO_l, e_lenO_t, e_lenO_d, e_abs, e_max, e_min, e_int_i, e_int_b, e_int_s, e_listO_l, e_listO_t, e_divmod, e_all, e_isi, e_eq_ii, e_eq_ss, e_eq_bb, e_ne_ii, e_ne_ss, e_ne_bb, e_tru_n, e_tru_b, e_tru_i, e_tru_s, e_tru_r, e_truO_l, e_truO_t, e_sl_s, e_sl_r, e_slO, e_app, e_appO, e_rev, e_revO, e_tyX_l, e_tyXO_l, e_tyX_s, e_iO_l, e_iO_t, e_upd_same, e_upd_ne, ne_eq, not_false_eq_true, e_isN_n, e_isN_i, e_isN_b, e_isN_s, e_isN_r, e_non, e_tyN_i, e_tyN_b, e_tyN_s, e_tyN_n, e_tyN_r, e_tyO_l, e_tyO_t, e_tyO_d, e_box_turn, e_box_cells, e_box_put, List.map_cons, List.map_nil, List.length_cons, List.length_nil, List.replicate, List.append_nil, List.nil_append, List.cons_append, List.getElem?_cons_zero, List.getElem?_cons_succ, List.set_cons_zero, List.set_cons_succ, Nat.reduceAdd, Nat.reduceSub, ite_t, ite_f, decide_eq_true_eq, reduceIte, true_and, and_true, Bool.not_true, Bool.not_false, m_bool, m_int, m_str, m_list, m_tuple, m_dict, isTab, String.reduceBEq, Bool.and_false, Bool.and_true, Bool.or_false, Bool.false_or, Bool.or_true, Bool.true_or, Bool.false_and, Bool.true_and, decide_true, decide_false, Bool.false_eq_true, reduceCtorEq, e_isi_lt, tAug, e_for, e_forR1, e_forR2, e_forR3, e_sortS, e_addT_ii, e_addT_ss, e_addT_rr, e_catT_l, e_catT_t, e_addW_ii, e_addW_ss, e_addW_rr, e_catW_l, e_catW_t, e_forZ, e_lc, e_lcR1, e_lcR2, e_lcZ, tRv, e_rv, tM1, e_join, e_spl, e_cnt, e_cntO, e_idx, tRaise, tTry, e_forEs, e_mulY_ii, e_mulY_ri, e_mulY_si, tTryS, tTryN, xAsg, xExp, xIf, e_forEl, e_stw, e_maxY_ii, e_maxY_r, e_minY_ii, e_minY_r, e_anyY, e_sumY, tLR1, tLR2, tPar3, ex_three, e_lcEs, e_strY_i, e_listY_r, e_listY_s, e_pop, e_popO, e_popAt, e_ext, e_clr, e_clrO, e_isB, e_isNB, e_lenS, e_lenSO, e_sc, at_2, at_3, e_cntS, tAsg2, e_other, e_lcEl, e_ins, e_insO, tAugS, e_getL, tChain3, tChain4, e_gLst, e_gLstO, tRvY, e_rvY_s, e_rvY_r, e_stp, tOrW, e_forZ3, e_sameW, tDDef, tDNewT, e_forEz, e_inS, e_ninS, tCBK]
        exact ⟨_, _, _, _, _, _, rfl, (x9.kp k10).mono (by omega), p10⟩
      · rintro σ H' ⟨s2, s3, s4, s5, s6, s7, rfl, x1, p1⟩
        walk_at "rd"
        exact told_id (h _)
    · exact h.elim
end
theorem bl_mk {K : PySem.W.Frag} {mg : Str → Option Value} {h : Heap} (X : K.In h) (G : h.Ns mainGlobals mg) (z0 : PySem.W.nsIn K mainGlobals "abs" = some none) (z1 : PySem.W.nsIn K mainGlobals "all" = some none) (z2 : PySem.W.nsIn K mainGlobals "bool" = some none) (z3 : PySem.W.nsIn K mainGlobals "divmod" = some none) (z4 : PySem.W.nsIn K mainGlobals "int" = some none) (z5 : PySem.W.nsIn K mainGlobals "isinstance" = some none) (z6 : PySem.W.nsIn K mainGlobals "len" = some none) (z7 : PySem.W.nsIn K mainGlobals "list" = some none) (z8 : PySem.W.nsIn K mainGlobals "max" = some none) (z9 : PySem.W.nsIn K mainGlobals "min" = some none) (z10 : PySem.W.nsIn K mainGlobals "range" = some none) (z11 : PySem.W.nsIn K mainGlobals "str" = some none) (z12 : PySem.W.nsIn K mainGlobals "tuple" = some none) (z13 : PySem.W.nsIn K mainGlobals "zip" = some none) : Bl mg := ⟨PySem.W.mg_none_of X G z0, PySem.W.mg_none_of X G z1, PySem.W.mg_none_of X G z2, PySem.W.mg_none_of X G z3, PySem.W.mg_none_of X G z4, PySem.W.mg_none_of X G z5, PySem.W.mg_none_of X G z6, PySem.W.mg_none_of X G z7, PySem.W.mg_none_of X G z8, PySem.W.mg_none_of X G z9, PySem.W.mg_none_of X G z10, PySem.W.mg_none_of X G z11, PySem.W.mg_none_of X G z12, PySem.W.mg_none_of X G z13⟩
theorem walk {l : PySem.W.OpenLaw} {q : Program} {loose : List Str} {XP : (Str → Option Value) → Heap → Prop} {YP : World → Heap → Prop} {d : DefRec} {K : Params → PySem.W.Frag} (hn : l.most = some 63) (hdf : d.params.defaults = [])
    (hY : ∀ (w : World) (h : Heap), YP w h → (K w.params).In h)
    (F : ∀ (w : World) (mg : Str → Option Value) (fa : Addr) (h : Heap), (K w.params).In h → h.Ns mainGlobals mg → mg d.name = some (.ref fa) →
      ∃ fd : FuncData, (∀ (s : Shared) (u : Value), BindsTo s fd ⟨[u], []⟩ [("_law_script", u)]) ∧ ∀ base : Heap, (K w.params).In base → base.Ns mainGlobals mg → FnOk l.prog w (K w.params) mg base CX0 10 fa fd ["_law_script"] (spLaw (K w.params))) :
    PySem.W.WalkO q loose XP YP l.row.toRowW d [] (fun f vs => PySem.call f vs) :=
  L2.walk_of (n := 63) (k := 10) (x := "_law_script") (CX := fun _ => CX0) (sp := fun w => spLaw (K w.params)) hn (by decide) hdf ⟨rfl, by decide, by decide, rfl⟩ hY F (fun _ H a ns hl hO hS => spLaw_of hl hO hS) fun _ _ _ _ _ z => z
theorem law_mk {l : PySem.W.OpenLaw} {w : World} {K : PySem.W.Frag} {h : Heap} {mg : Str → Option Value} {fa f : Addr} (X : K.In h) (G : h.Ns mainGlobals mg) (hfa : mg "law" = some (.ref fa)) (T : Bl mg) (OB : Ob w K mg) (f_flipped : Fn K mg "flipped" s_flipped p_flipped) (f_press : Fn K mg "press" s_press p_press) (f_pressed : Fn K mg "pressed" s_pressed p_pressed) (f_l_begin : Fn K mg "_law_begin" s_l_begin p_l_begin) (f_l_take : Fn K mg "_law_take" s_l_take p_l_take) (f_l_same : Fn K mg "_law_same" s_l_same p_l_same) (f_l_lowest : Fn K mg "_law_lowest" s_l_lowest p_l_lowest) (f_l_share : Fn K mg "_law_share" s_l_share p_l_share) (f_l_steady : Fn K mg "_law_steady" s_l_steady p_l_steady) (f_l_bits : Fn K mg "_law_bits" s_l_bits p_l_bits) (f_l_some_bits : Fn K mg "_law_some_bits" s_l_some_bits p_l_some_bits) (f_l_step : Fn K mg "_law_step" s_l_step p_l_step) (f_l_pressed : Fn K mg "_law_pressed" s_l_pressed p_l_pressed) (f_l_long : Fn K mg "_law_long" s_l_long p_l_long)
    {od an : Option Addr} {sl : Array (Option Value)} {oc kV doc pm cd ct : Value}
    (a4 : PySem.W.nsIn K mainGlobals "law" = some (some (.ref f))) (l4 : K.lookup f = some ⟨oc, od, .func (PySem.W.fnOf "law" "law" (defArgs s_law) (defBody s_law) (defScope s_law) .none kV doc pm an cd ct), sl⟩) (c4 : PySem.W.codeIn K cd "law" = true) (k4 : PySem.W.keepIn K (.ref f) = true) :
    ∃ fd : FuncData, (∀ (s : Shared) (v : Value), BindsTo s fd ⟨[v], []⟩ [("_law_script", v)]) ∧ ∀ base : Heap, K.In base → base.Ns mainGlobals mg → FnOk l.prog w K mg base CX0 10 fa fd ["_law_script"] (spLaw K) := by
  have e := hfa.symm.trans (PySem.W.mg_of X G a4)
  cases e
  have F4 := fun_mk (st := s_law) l4 c4 k4
  refine ⟨PySem.W.fnOf "law" "law" (defArgs s_law) (defBody s_law) (defScope s_law) .none kV doc pm an cd ct, fun s v => .of_eq rfl, fun base _ _ => ?_⟩
  exact (ok_law (P := l.prog) (w := w) (base := base) F4 T OB f_flipped f_press f_pressed f_l_begin f_l_take f_l_same f_l_lowest f_l_share f_l_steady f_l_bits f_l_some_bits f_l_step f_l_pressed f_l_long).mono (by decide)
end K63
open PySem PySem.W PyProof.Rows
set_option maxRecDepth 100000 in
set_option maxHeartbeats 0 in
theorem PySem.Challenge.cw_meanbits_k63_rows_pressed_holds : PySem.Challenge.rw_meanbits_k63_rows_pressed.Holds := by
  w_on; o_law; k_head; (case hw => w_witness2)
  k_fill
  refine K63.walk (l := PySem.Challenge.rw_meanbits_k63_rows_pressed) rfl rfl (fun w h Y => PySem.W.kIn_of Y) ?F
  case F =>
    intro w mg fa h KX G hmg
    have T : K63.Bl mg := by
      refine' K63.bl_mk KX G ?z0 ?z1 ?z2 ?z3 ?z4 ?z5 ?z6 ?z7 ?z8 ?z9 ?z10 ?z11 ?z12 ?z13
      (case z0 => k_is)
      (case z1 => k_is)
      (case z2 => k_is)
      (case z3 => k_is)
      (case z4 => k_is)
      (case z5 => k_is)
      (case z6 => k_is)
      (case z7 => k_is)
      (case z8 => k_is)
      (case z9 => k_is)
      (case z10 => k_is)
      (case z11 => k_is)
      (case z12 => k_is)
      (case z13 => k_is)
    have f_flipped : M.Fn (L2.KOf KX) mg "flipped" K63.s_flipped K63.p_flipped := by
      dsimp only [L2.KOf]
      refine' M.fn_mk KX G ?a ?l ?c ?k ?b
      (case a => k_is); (case l => k_is); (case c => k_is); (case k => k_is)
      (case b => exact fun _ _ _ _ _ _ us hl => match us, hl with | [_], _ => rfl)
    have f_press : M.Fn (L2.KOf KX) mg "press" K63.s_press K63.p_press := by
      dsimp only [L2.KOf]
      refine' M.fn_mk KX G ?a ?l ?c ?k ?b
      (case a => k_is); (case l => k_is); (case c => k_is); (case k => k_is)
      (case b => exact fun _ _ _ _ _ _ us hl => match us, hl with | [_], _ => rfl)
    have f_pressed : M.Fn (L2.KOf KX) mg "pressed" K63.s_pressed K63.p_pressed := by
      dsimp only [L2.KOf]
      refine' M.fn_mk KX G ?a ?l ?c ?k ?b
      (case a => k_is); (case l => k_is); (case c => k_is); (case k => k_is)
      (case b => exact fun _ _ _ _ _ _ us hl => match us, hl with | [_], _ => rfl)
    have f_l_begin : M.Fn (L2.KOf KX) mg "_law_begin" K63.s_l_begin K63.p_l_begin := by
      dsimp only [L2.KOf]
      refine' M.fn_mk KX G ?a ?l ?c ?k ?b
      (case a => k_is); (case l => k_is); (case c => k_is); (case k => k_is)
      (case b => exact fun _ _ _ _ _ _ us hl => match us, hl with | [_], _ => rfl)
    have f_l_take : M.Fn (L2.KOf KX) mg "_law_take" K63.s_l_take K63.p_l_take := by
      dsimp only [L2.KOf]
      refine' M.fn_mk KX G ?a ?l ?c ?k ?b
      (case a => k_is); (case l => k_is); (case c => k_is); (case k => k_is)
      (case b => exact fun _ _ _ _ _ _ us hl => match us, hl with | [_, _], _ => rfl)
    have f_l_same : M.Fn (L2.KOf KX) mg "_law_same" K63.s_l_same K63.p_l_same := by
      dsimp only [L2.KOf]
      refine' M.fn_mk KX G ?a ?l ?c ?k ?b
      (case a => k_is); (case l => k_is); (case c => k_is); (case k => k_is)
      (case b => exact fun _ _ _ _ _ _ us hl => match us, hl with | [_, _], _ => rfl)
    have f_l_lowest : M.Fn (L2.KOf KX) mg "_law_lowest" K63.s_l_lowest K63.p_l_lowest := by
      dsimp only [L2.KOf]
      refine' M.fn_mk KX G ?a ?l ?c ?k ?b
      (case a => k_is); (case l => k_is); (case c => k_is); (case k => k_is)
      (case b => exact fun _ _ _ _ _ _ us hl => match us, hl with | [_, _], _ => rfl)
    have f_l_share : M.Fn (L2.KOf KX) mg "_law_share" K63.s_l_share K63.p_l_share := by
      dsimp only [L2.KOf]
      refine' M.fn_mk KX G ?a ?l ?c ?k ?b
      (case a => k_is); (case l => k_is); (case c => k_is); (case k => k_is)
      (case b => exact fun _ _ _ _ _ _ us hl => match us, hl with | [_, _], _ => rfl)
    have f_l_steady : M.Fn (L2.KOf KX) mg "_law_steady" K63.s_l_steady K63.p_l_steady := by
      dsimp only [L2.KOf]
      refine' M.fn_mk KX G ?a ?l ?c ?k ?b
      (case a => k_is); (case l => k_is); (case c => k_is); (case k => k_is)
      (case b => exact fun _ _ _ _ _ _ us hl => match us, hl with | [_, _, _], _ => rfl)
    have f_l_bits : M.Fn (L2.KOf KX) mg "_law_bits" K63.s_l_bits K63.p_l_bits := by
      dsimp only [L2.KOf]
      refine' M.fn_mk KX G ?a ?l ?c ?k ?b
      (case a => k_is); (case l => k_is); (case c => k_is); (case k => k_is)
      (case b => exact fun _ _ _ _ _ _ us hl => match us, hl with | [_, _], _ => rfl)
    have f_l_some_bits : M.Fn (L2.KOf KX) mg "_law_some_bits" K63.s_l_some_bits K63.p_l_some_bits := by
      dsimp only [L2.KOf]
      refine' M.fn_mk KX G ?a ?l ?c ?k ?b
      (case a => k_is); (case l => k_is); (case c => k_is); (case k => k_is)
      (case b => exact fun _ _ _ _ _ _ us hl => match us, hl with | [_, _], _ => rfl)
    have f_l_step : M.Fn (L2.KOf KX) mg "_law_step" K63.s_l_step K63.p_l_step := by
      dsimp only [L2.KOf]
      refine' M.fn_mk KX G ?a ?l ?c ?k ?b
      (case a => k_is); (case l => k_is); (case c => k_is); (case k => k_is)
      (case b => exact fun _ _ _ _ _ _ us hl => match us, hl with | [_], _ => rfl)
    have f_l_pressed : M.Fn (L2.KOf KX) mg "_law_pressed" K63.s_l_pressed K63.p_l_pressed := by
      dsimp only [L2.KOf]
      refine' M.fn_mk KX G ?a ?l ?c ?k ?b
      (case a => k_is); (case l => k_is); (case c => k_is); (case k => k_is)
      (case b => exact fun _ _ _ _ _ _ us hl => match us, hl with | [_], _ => rfl)
    have f_l_long : M.Fn (L2.KOf KX) mg "_law_long" K63.s_l_long K63.p_l_long := by
      dsimp only [L2.KOf]
      refine' M.fn_mk KX G ?a ?l ?c ?k ?b
      (case a => k_is); (case l => k_is); (case c => k_is); (case k => k_is)
      (case b => exact fun _ _ _ _ _ _ us hl => match us, hl with | [_], _ => rfl)
    have OB : M.Ob w (L2.KOf KX) mg := by
      dsimp only [L2.KOf]
      refine' M.ob_mk KX G ?o1 ?o2
      (case o1 => kernel_rfl); (case o2 => kernel_rfl)
    refine' K63.law_mk KX G hmg T OB f_flipped f_press f_pressed f_l_begin f_l_take f_l_same f_l_lowest f_l_share f_l_steady f_l_bits f_l_some_bits f_l_step f_l_pressed f_l_long ?a ?l ?c ?k
    (case a => k_is); (case l => k_is); (case c => k_is); (case k => k_is)
#print axioms PySem.Challenge.cw_meanbits_k63_rows_pressed_holds
