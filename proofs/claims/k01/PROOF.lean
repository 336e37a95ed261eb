import PyProof.Rows.All
import Wide.All
import OpenK.AllK
import Wide.FinOn
import Lean
import PyProof.EqAt
import PyProof.EqKinds
import PyProof.TupleCall
import PyProof.SetScanFacts
import PySem.Challenge.RW_tiewebs_k01_webs_known
set_option Elab.async false
set_option linter.all false
section
set_option maxRecDepth 100000
namespace L2
open PySem PySem.Spec PyProof.Rows
abbrev Key := Sum Int Str
def keyIs : Key → Value → Bool
  | .inl k, v => Value.isInt k v
  | .inr x, v => Value.isStrOf x v
def keyH (w : World) : Key → Int
  | .inl k => hashInt k
  | .inr x => hashStr w x
theorem keyIs_shape : ∀ {k : Key} {v : Value}, keyIs k v = true → (∃ i t, k = Sum.inl i ∧ v = Value.int i t) ∨ (∃ x t, k = Sum.inr x ∧ v = Value.str x t)
  | .inl i, v, h => by
    obtain ⟨t, e⟩ := Value.isInt_shape (k := i) (v := v) h
    exact .inl ⟨i, t, rfl, e⟩
  | .inr x, v, h => by
    obtain ⟨t, e⟩ := Value.isStrOf_shape (x := x) (v := v) h
    exact .inr ⟨x, t, rfl, e⟩
theorem key_ll (a b : Int) : decide ((Sum.inl a : Key) = Sum.inl b) = (a == b) := by
  by_cases e : a = b
  · subst e; simp
  · have h : ¬ (Sum.inl a : Key) = Sum.inl b := fun q => e (Sum.inl.inj q)
    rw [decide_eq_false h]
    exact (beq_eq_false_iff_ne.mpr e).symm
theorem key_rr (a b : Str) : decide ((Sum.inr a : Key) = Sum.inr b) = decide (a = b) := by
  by_cases e : a = b
  · subst e; simp
  · have h : ¬ (Sum.inr a : Key) = Sum.inr b := fun q => e (Sum.inr.inj q)
    rw [decide_eq_false h, decide_eq_false e]
theorem key_lr (a : Int) (b : Str) : decide ((Sum.inl a : Key) = Sum.inr b) = false := decide_eq_false (fun q => nomatch q)
theorem key_rl (a : Str) (b : Int) : decide ((Sum.inr a : Key) = Sum.inl b) = false := decide_eq_false (fun q => nomatch q)
def mixKind (prog : Program) (w : World) : PySem.KeyKind prog w Key where
  is := keyIs
  hash := keyH w
  inj := fun v a b ha hb => by
    rcases keyIs_shape ha with ⟨i, t, rfl, rfl⟩ | ⟨x, t, rfl, rfl⟩
    · rcases keyIs_shape hb with ⟨j, u, rfl, e⟩ | ⟨y, u, rfl, e⟩
      · injection e with e1 _; rw [e1]
      · exact nomatch e
    · rcases keyIs_shape hb with ⟨j, u, rfl, e⟩ | ⟨y, u, rfl, e⟩
      · exact nomatch e
      · injection e with e1 _; rw [e1]
  byValue := fun k v h => by
    rcases keyIs_shape h with ⟨i, t, rfl, rfl⟩ | ⟨x, t, rfl, rfl⟩ <;> rfl
  pyHash := fun hv h => by
    rcases keyIs_shape hv with ⟨i, t, rfl, rfl⟩ | ⟨x, t, rfl, rfl⟩
    · exact wpAny_pyHash_int h
    · exact wpAny_pyHash_str h
  eqBool := fun hu hv h => by
    rcases keyIs_shape hu with ⟨i, t, rfl, rfl⟩ | ⟨x, t, rfl, rfl⟩
    · rcases keyIs_shape hv with ⟨j, u, rfl, rfl⟩ | ⟨y, u, rfl, rfl⟩
      · rw [key_ll] at h; exact wpAny_eqBool_int h
      · rw [key_lr] at h; exact SeqAt.EqAt.int_str i t y u _ _ _ _ h
    · rcases keyIs_shape hv with ⟨j, u, rfl, rfl⟩ | ⟨y, u, rfl, rfl⟩
      · rw [key_rl] at h; exact SeqAt.EqAt.str_int x t j u _ _ _ _ h
      · rw [key_rr] at h; exact wpAny_eqBool_str h
  «strs» := fun k x t v h => by
    rcases keyIs_shape h with ⟨i, u, rfl, e⟩ | ⟨y, u, rfl, e⟩
    · exact nomatch e
    · injection e with e1 _
      subst e1
      cases v <;> rfl
end L2
namespace L2
open PySem PySem.Spec PyProof.Rows
inductive V where
  | non | bl (b : Bool) | int (i : Int) | str (x : Str) | byt (b : Array UInt8) | flt (b : UInt64) | ref (a : Addr) | ty (n : String)
  deriving DecidableEq
def RelV : V → Value → Prop
  | .non, u => u = Value.none
  | .bl b, u => u = Value.bool b
  | .int i, u => ∃ t, u = Value.int i t
  | .str x, u => ∃ t, u = Value.str x t
  | .byt b, u => ∃ t, u = Value.bytes b t
  | .flt b, u => ∃ t, u = Value.float b t
  | .ref a, u => u = Value.ref a
  | .ty n, u => u = Value.type n
abbrev Vals : List V → List Value → Prop := Paired RelV
theorem Vals.length {xs : List V} {us : List Value} (r : Vals xs us) : xs.length = us.length := Paired.length r
theorem Vals.get : ∀ {xs : List V} {us : List Value} {i : Nat} {x : V}, Vals xs us → xs[i]? = some x → ∃ u, us[i]? = some u ∧ RelV x u
  | _, _, _, _, .nil, e => by simp at e
  | _, _, 0, _, .cons r _, e => by simp at e; subst e; exact ⟨_, rfl, r⟩
  | _, _, i + 1, x, .cons _ t, e => by
    obtain ⟨u, h1, h2⟩ := Vals.get (i := i) (x := x) t (by simpa using e)
    exact ⟨u, by simpa using h1, h2⟩
theorem Vals.set {x : V} {u : Value} (r : RelV x u) : ∀ {xs : List V} {us : List Value} (i : Nat), Vals xs us → Vals (xs.set i x) (us.set i u)
  | _, _, _, .nil => .nil
  | _, _, 0, .cons _ t => .cons r t
  | _, _, i + 1, .cons q t => .cons q (Vals.set r i t)
theorem Vals.append : ∀ {xs ys : List V} {us ws : List Value}, Vals xs us → Vals ys ws → Vals (xs ++ ys) (us ++ ws)
  | _, _, _, _, .nil, s => s
  | _, _, _, _, .cons r t, s => .cons r (Vals.append t s)
theorem Vals.take : ∀ {xs : List V} {us : List Value} (n : Nat), Vals xs us → Vals (xs.take n) (us.take n)
  | _, _, 0, _ => .nil
  | _, _, _ + 1, .nil => .nil
  | _, _, n + 1, .cons r t => .cons r (Vals.take n t)
theorem Vals.drop : ∀ {xs : List V} {us : List Value} (n : Nat), Vals xs us → Vals (xs.drop n) (us.drop n)
  | _, _, 0, r => r
  | _, _, _ + 1, .nil => .nil
  | _, _, n + 1, .cons _ t => Vals.drop n t
def RelO : Option V → Option Value → Prop
  | some v, some u => RelV v u
  | none, none => True
  | _, _ => False
def KV {κ : Type} : List (κ × V) → List (κ × Value) → Prop := Paired fun (p : κ × V) (q : κ × Value) => p.1 = q.1 ∧ RelV p.2 q.2
def kV : Key → V
  | .inl i => .int i
  | .inr x => .str x
inductive HO where
  /-- a list -/
  | lst (xs : List V)
  /-- a tuple (never changes) -/
  | tup (xs : List V)
  /-- a dict whose keys are ints and texts; one whose keys are tuples of ints and texts (the empty one is both) -/
  | dK (kvs : List (Key × V)) | dT (kvs : List (List Key × V))
  /-- a set of ints: its members, its size -/
  | set (S : Int → Bool) (n : Nat)
  /-- an instance of the class at C, its dict at dx, its attributes -/
  | ins (C dx : Addr) (fs : List (Str × V))
  /-- the dict of the instance at x -/
  | own (x : Addr)
  /-- the dict of an exception -/
  | xd (fs : List (Str × V))
  /-- a bound method, f of x -/
  | met (f x : Addr)
  /-- a range object lo, lo + 1, .. below hi -/
  | rng (lo hi : Int)
  /-- a thing that is known to the object (the script; a dict while a loop walks it): read, never written while it is so -/
  | frz (o : Obj) (u : HO)
  /-- a code object's table -/
  | tbl (ps : Array Value)
  /-- any other thing, by what is true of its one object (a def of one's own: SetO a S n := HO.ext fun h => ..) -/
  | ext (φ : Heap → Prop)
abbrev Hp := Addr → Option HO
def upd (H : Hp) (a : Addr) (o : HO) : Hp := fun b => if b = a then some o else H b
theorem upd_same {H : Hp} {a : Addr} {o : HO} : upd H a o a = some o := by unfold upd; rw [if_pos rfl]
theorem upd_ne {H : Hp} {a b : Addr} {o : HO} (h : b ≠ a) : upd H a o b = H b := by unfold upd; rw [if_neg h]
theorem ne_of_none {H : Hp} {a b : Addr} {o : HO} (h : H a = some o) (h' : H b = none) : a ≠ b := by
  intro e; subst e; rw [h] at h'; cases h'
section
variable (P : Program) (w : World)
def ObjOk (H : Hp) (h : Heap) (a : Addr) : HO → Prop
  | .lst xs => xs.length ≤ sizeLine ∧ ∃ (its : List Value) (n : Nat), Vals xs its ∧ h.get? a = some { cls := .type "list", data := .seq its.toArray n }
  | .tup xs => xs.length ≤ sizeLine ∧ ∃ its : List Value, Vals xs its ∧ IsTup h a its.toArray
  | .dK kvs => kvs.length ≤ sizeLine ∧ (a == sysModules) = false ∧ ∃ vs, KV kvs vs ∧ h.DictOf (mixKind P w) a vs
  | .dT kvs => kvs.length ≤ sizeLine ∧ (a == sysModules) = false ∧ ∃ xs : List (List Key × Addr × Value),
      Paired (fun (p : List Key × V) (q : List Key × Addr × Value) => p.1 = q.1 ∧ H q.2.1 = some (.tup (p.1.map kV)) ∧ RelV p.2 q.2.2) kvs xs ∧
      ∃ o es ep, h.get? a = some o ∧ o.ExactDict ∧ o.data = .dict es ep ∧ es.toList = xs.map (entryOfKey (tupleKind (mixKind P w))) ∧ (xs.map (·.1)).Nodup
  | .set S n => h.SetOf (intKind P w) a S n
  | .ins C dx fs => H dx = some (.own a) ∧ fs.length ≤ 1000 ∧ dx ≠ a ∧ h.get? a = some (PySem.W.instObj C dx) ∧
      ∃ mA, h.Ns1 dx mA ∧ (∀ f, RelO (fs.lookup f) (mA f)) ∧ PySem.Within mA (fs.map (·.1))
  | .own _ => ∃ o, h.get? a = some o
  | .xd fs => ∃ mA, h.Ns1 a mA ∧ ∀ f, RelO (fs.lookup f) (mA f)
  | .rng lo hi => ∃ t u v, h.get? a = some { cls := .type "range", data := .fields #[.int lo t, .int hi u, .int 1 v] }
  | .frz o u => h.get? a = some o ∧ ObjOk H h a u
  | .tbl ps => h.get? a = some { cls := .none, data := .fields ps }
  | .met f x => h.get? a = some (PySem.W.methodObj (.ref f) (.ref x))
  | .ext φ => φ h ∧ (∃ o, h.get? a = some o) ∧ ∀ h1 h2 : Heap, φ h1 → (∀ o, h1.get? a = some o → h2.get? a = some o) → φ h2
def HOk (H : Hp) (h : Heap) : Prop := ∀ a o, H a = some o → ObjOk P w H h a o
end
section
variable {P : Program} {w : World} {H H' : Hp} {h h' : Heap} {a : Addr} {o : HO}
theorem ObjOk.lt (x : ObjOk P w H h a o) : a < h.objs.size := by
  cases o with
  | lst xs => obtain ⟨_, _, _, _, e⟩ := x; exact Heap.lt_size e
  | tup xs => obtain ⟨_, _, _, p⟩ := x; exact p.lt
  | dK kvs => obtain ⟨_, _, _, _, o, _, _, e, _⟩ := x; exact Heap.lt_size e
  | dT kvs => obtain ⟨_, _, _, _, o, _, _, e, _⟩ := x; exact Heap.lt_size e
  | set S n => obtain ⟨o, _, _, _, e, _⟩ := x; exact Heap.lt_size e
  | ins C dx fs => obtain ⟨_, _, _, e, _⟩ := x; exact Heap.lt_size e
  | own y => obtain ⟨_, e⟩ := x; exact Heap.lt_size e
  | xd fs => obtain ⟨_, ⟨_, _, _, e, _⟩, _⟩ := x; exact Heap.lt_size e
  | rng lo hi => obtain ⟨_, _, _, e⟩ := x; exact Heap.lt_size e
  | frz ob u => obtain ⟨e, _⟩ := x; exact Heap.lt_size e
  | tbl ps => exact Heap.lt_size (show h.get? a = some _ from x)
  | met f y => exact Heap.lt_size (show h.get? a = some _ from x)
  | ext φ => obtain ⟨_, ⟨_, e⟩, _⟩ := x; exact Heap.lt_size e
theorem Paired.mapP {α β : Type} {F G : α → β → Prop} : ∀ {l₁ : List α} {l₂ : List β}, Paired F l₁ l₂ → (∀ a b, F a b → G a b) → Paired G l₁ l₂
  | _, _, .nil, _ => .nil
  | _, _, .cons r t, f => .cons (f _ _ r) (Paired.mapP t f)
theorem ObjOk.stay (x : ObjOk P w H h a o) (k : ∀ b u, (b = a ∨ H b = some (.own a)) → h.get? b = some u → h'.get? b = some u)
    (ho : ∀ b, H b = some (.own a) → H' b = some (.own a)) (ht : ∀ b xs, H b = some (.tup xs) → H' b = some (.tup xs)) : ObjOk P w H' h' a o := by
  induction o with
  | lst xs => obtain ⟨z, its, n, r, e⟩ := x; exact ⟨z, its, n, r, k _ _ (.inl rfl) e⟩
  | tup xs => obtain ⟨z, its, r, ob, e, c⟩ := x; exact ⟨z, its, r, ob, k _ _ (.inl rfl) e, c⟩
  | dK kvs => obtain ⟨z, y, vs, r, ob, es, ep, e, c⟩ := x; exact ⟨z, y, vs, r, ob, es, ep, k _ _ (.inl rfl) e, c⟩
  | dT kvs =>
    obtain ⟨z, y, xs, r, ob, es, ep, e, c⟩ := x
    exact ⟨z, y, xs, Paired.mapP r fun p q z => ⟨z.1, ht _ _ z.2.1, z.2.2⟩, ob, es, ep, k _ _ (.inl rfl) e, c⟩
  | set S n => obtain ⟨ob, es, ep, t, e, c⟩ := x; exact ⟨ob, es, ep, t, k _ _ (.inl rfl) e, c⟩
  | ins C dx fs =>
    obtain ⟨d, z, ne, e, mA, ⟨od, es, ep, e2, c⟩, r⟩ := x
    exact ⟨ho _ d, z, ne, k _ _ (.inl rfl) e, mA, ⟨od, es, ep, k _ _ (.inr d) e2, c⟩, r⟩
  | own y => obtain ⟨ob, e⟩ := x; exact ⟨ob, k _ _ (.inl rfl) e⟩
  | xd fs => obtain ⟨mA, ⟨od, es, ep, e, c⟩, r⟩ := x; exact ⟨mA, ⟨od, es, ep, k _ _ (.inl rfl) e, c⟩, r⟩
  | rng lo hi => obtain ⟨t, u, v, e⟩ := x; exact ⟨t, u, v, k _ _ (.inl rfl) e⟩
  | frz ob u ih => obtain ⟨e, q⟩ := x; exact ⟨k _ _ (.inl rfl) e, ih q⟩
  | tbl ps =>
    have e : h.get? a = some { cls := .none, data := .fields ps } := x
    show h'.get? a = some { cls := .none, data := .fields ps }
    exact k a _ (.inl rfl) e
  | met f y =>
    have e : h.get? a = some (PySem.W.methodObj (.ref f) (.ref y)) := x
    show h'.get? a = some (PySem.W.methodObj (.ref f) (.ref y))
    exact k a _ (.inl rfl) e
  | ext φ => obtain ⟨p, ⟨o, e⟩, st⟩ := x; exact ⟨st _ _ p fun o q => k _ _ (.inl rfl) q, ⟨o, k _ _ (.inl rfl) e⟩, st⟩
theorem HOk.lt (x : HOk P w H h) (e : H a = some o) : a < h.objs.size := (x a o e).lt
theorem HOk.fresh (x : HOk P w H h) (e : h.objs.size ≤ a) : H a = none := by
  cases q : H a with
  | none => rfl
  | some u => exact absurd (Nat.lt_of_lt_of_le (x.lt q) e) (Nat.lt_irrefl _)
theorem HOk.kept (x : HOk P w H h) (k : ∀ b u, h.get? b = some u → h'.get? b = some u) : HOk P w H h' := fun a o e =>
  (x a o e).stay (fun b u _ q => k b u q) (fun _ q => q) fun _ _ q => q
theorem HOk.laid (x : HOk P w H h) (k : ∀ b u, h.get? b = some u → h'.get? b = some u) (hp : h.objs.size ≤ a) (new : ObjOk P w (upd H a o) h' a o) : HOk P w (upd H a o) h' := fun b u e => by
  have hn := x.fresh hp
  by_cases hb : b = a
  · subst hb; rw [upd_same] at e; cases e; exact new
  · rw [upd_ne hb] at e
    exact (x b u e).stay (fun c v _ q => k c v q) (fun c q => by rw [upd_ne (ne_of_none q hn)]; exact q) fun c xs q => by rw [upd_ne (ne_of_none q hn)]; exact q
end
def Rd (H : Hp) (a : Addr) (u : HO) : Prop := H a = some u ∨ ∃ o, H a = some (.frz o u)
theorem Rd.of {H : Hp} {a : Addr} {u : HO} (h : H a = some u) : Rd H a u := .inl h
theorem Rd.ok {P : Program} {w : World} {H : Hp} {h : Heap} {a : Addr} {u : HO} (r : Rd H a u) (x : HOk P w H h) : ObjOk P w H h a u := by
  rcases r with r | ⟨o, r⟩
  · exact x a u r
  · obtain ⟨_, q⟩ := x a _ r
    exact q
def Mut : Option HO → Prop
  | some (.lst _) => True
  | some (.dK _) => True
  | some (.dT _) => True
  | some (.set _ _) => True
  | some (.ins _ _ _) => True
  | some (.ext _) => True
  | _ => False
section
variable {P : Program} {w : World} {H : Hp} {h h' : Heap} {x e : Addr} {o' : HO}
theorem HOk.write (ok : HOk P w H h) (mu : Mut (H x)) (he : e = x ∨ H e = some (.own x)) (k : ∀ b u, b ≠ e → h.get? b = some u → h'.get? b = some u) (heo : ∃ u, h'.get? e = some u)
    (new : ObjOk P w (upd H x o') h' x o') : HOk P w (upd H x o') h' := fun b u q => by
  have nown : ∀ c y, H c = some (.own y) → c ≠ x := fun c y r z => by subst z; rw [r] at mu; exact mu
  have ntup : ∀ c xs, H c = some (.tup xs) → c ≠ x := fun c xs r z => by subst z; rw [r] at mu; exact mu
  by_cases hb : b = x
  · subst hb; rw [upd_same] at q; cases q; exact new
  · rw [upd_ne hb] at q
    by_cases hbe : b = e
    · have q' : H b = some (.own x) := by
        rcases he with z | z
        · exact absurd (hbe.trans z) hb
        · rw [hbe]; exact z
      rw [q] at q'; cases q'
      obtain ⟨v, hv⟩ := heo
      exact ⟨v, by rw [hbe]; exact hv⟩
    · refine (ok b u q).stay (fun c v hc r => k c v ?_ r) (fun c r => by rw [upd_ne (nown c b r)]; exact r) fun c xs r => by rw [upd_ne (ntup c xs r)]; exact r
      rcases hc with rfl | hc
      · exact hbe
      · rintro rfl
        rcases he with z | z
        · exact nown c b hc z
        · rw [hc] at z; cases z; exact hb rfl
end
structure Un (fs ex : List Addr) (H H' : Hp) (h h' : Heap) : Prop where
  keep : ∀ b o, h.get? b = some o → H b = none → b ∉ fs → b ∉ ex → h'.get? b = some o
  slot : ∀ b o, h.get? b = some o → H b = none → b ∈ fs → b ∉ ex → ∃ sl, h'.get? b = some { o with slots := sl }
  free : ∀ b o, h.get? b = some o → H b = none → b ∉ ex → H' b = none
  there : ∀ b o, h.get? b = some o → b ∉ ex → ∃ o', h'.get? b = some o'
  tups : ∀ b xs, H b = some (.tup xs) → H' b = some (.tup xs)
  frzs : ∀ b o u, H b = some (.frz o u) → H' b = some (.frz o u)
  tbls : ∀ b ps, H b = some (.tbl ps) → ∃ more, H' b = some (.tbl (ps ++ more))
section
variable {fs fs' ex ex' : List Addr} {H H1 H2 : Hp} {h h1 h2 h' : Heap} {a x e : Addr} {o : HO}
theorem Un.any (u : Un fs ex H H1 h h1) {b : Addr} {ob : Obj} (q : h.get? b = some ob) (n : H b = none) (hx : b ∉ ex) : ∃ sl, h1.get? b = some { ob with slots := sl } := by
  by_cases hb : b ∈ fs
  · exact u.slot b ob q n hb hx
  · exact ⟨ob.slots, u.keep b ob q n hb hx⟩
theorem Un.trans (a : Un fs ex H H1 h h1) (b : Un fs ex H1 H2 h1 h2) : Un fs ex H H2 h h2 where
  keep := fun c ob q n hc hx => b.keep c ob (a.keep c ob q n hc hx) (a.free c ob q n hx) hc hx
  slot := fun c ob q n hc hx => by
    obtain ⟨sl, e1⟩ := a.slot c ob q n hc hx
    obtain ⟨sl', e2⟩ := b.slot c _ e1 (a.free c ob q n hx) hc hx
    exact ⟨sl', e2⟩
  free := fun c ob q n hx => by
    obtain ⟨o', e1⟩ := a.there c ob q hx
    exact b.free c o' e1 (a.free c ob q n hx) hx
  there := fun c ob q hx => by
    obtain ⟨o', e1⟩ := a.there c ob q hx
    exact b.there c o' e1 hx
  tups := fun c xs q => b.tups c xs (a.tups c xs q)
  frzs := fun c ob xs q => b.frzs c ob xs (a.frzs c ob xs q)
  tbls := fun c ps q => by
    obtain ⟨m1, e1⟩ := a.tbls c ps q
    obtain ⟨m2, e2⟩ := b.tbls c _ e1
    exact ⟨m1 ++ m2, by rw [e2, Array.append_assoc]⟩
theorem Un.kept (k : ∀ b u, h.get? b = some u → h'.get? b = some u) : Un fs ex H H h h' :=
  ⟨fun b ob q _ _ _ => k b ob q, fun b ob q _ _ _ => ⟨ob.slots, k b ob q⟩, fun _ _ _ n _ => n, fun b ob q _ => ⟨ob, k b ob q⟩, fun _ _ q => q, fun _ _ _ q => q, fun _ ps q => ⟨#[], by rw [q]; simp⟩⟩
theorem Un.refl : Un fs ex H H h h := Un.kept fun _ _ q => q
theorem Un.laid (k : ∀ b u, h.get? b = some u → h'.get? b = some u) (hp : h.objs.size ≤ a) (hn : H a = none) : Un fs ex H (upd H a o) h h' where
  keep := fun b u q _ _ _ => k b u q
  slot := fun b u q _ _ _ => ⟨u.slots, k b u q⟩
  free := fun b u q n _ => by rw [upd_ne (Nat.ne_of_lt (Nat.lt_of_lt_of_le (Heap.lt_size q) hp))]; exact n
  there := fun b u q _ => ⟨u, k b u q⟩
  tups := fun b xs q => by rw [upd_ne (ne_of_none q hn)]; exact q
  frzs := fun b u xs q => by rw [upd_ne (ne_of_none q hn)]; exact q
  tbls := fun b ps q => ⟨#[], by rw [upd_ne (ne_of_none q hn), q]; simp⟩
theorem Un.write (mu : Mut (H x)) (he : e = x ∨ H e = some (.own x)) (k : ∀ b u, b ≠ e → h.get? b = some u → h'.get? b = some u) (heo : ∃ u, h'.get? e = some u) : Un fs ex H (upd H x o) h h' := by
  have hx : ∀ b, H b = none → b ≠ x := fun b n z => by subst z; rw [n] at mu; exact mu
  have hb : ∀ b, H b = none → b ≠ e := fun b n z => by
    subst z
    rcases he with r | r
    · exact hx b n r
    · rw [n] at r; cases r
  have hm : ∀ b u, H b = some u → ¬ Mut (some u) → b ≠ x := fun b u q nm z => by subst z; rw [q] at mu; exact nm mu
  refine ⟨fun b u q n _ _ => k b u (hb b n) q, fun b u q n _ _ => ⟨u.slots, k b u (hb b n) q⟩, fun b u q n _ => by rw [upd_ne (hx b n)]; exact n, fun b u q _ => ?_,
    fun b xs q => by rw [upd_ne (hm b _ q fun z => z)]; exact q, fun b u xs q => by rw [upd_ne (hm b _ q fun z => z)]; exact q, fun b ps q => ⟨#[], by rw [upd_ne (hm b _ q fun z => z), q]; simp⟩⟩
  by_cases hbe : b = e
  · subst hbe; exact heo
  · exact ⟨u, k b u hbe q⟩
theorem Un.mono (u : Un fs ex H H1 h h1) (hs : ∀ b ∈ fs, b ∈ fs') (hx : ∀ b ∈ ex, b ∈ ex') : Un fs' ex' H H1 h h1 :=
  ⟨fun b ob q n hb he => u.keep b ob q n (fun z => hb (hs b z)) fun z => he (hx b z), fun _ _ q n _ he => u.any q n fun z => he (hx _ z), fun b ob q n he => u.free b ob q n fun z => he (hx b z), fun b ob q he => u.there b ob q fun z => he (hx b z), u.tups, u.frzs, u.tbls⟩
end
def trk (h : Heap) (H : Hp) : List Addr := (List.range h.objs.size).filter fun a => (H a).isSome
def hidT (h : Heap) (H : Hp) : Heap := PySem.W.hideAll h (trk h H)
theorem hidT_size (h : Heap) (H : Hp) : (hidT h H).objs.size = h.objs.size := PySem.W.hideAll_size _ _
theorem hidT_get {h : Heap} {H : Hp} {b : Addr} {o : Obj} (e : h.get? b = some o) (n : H b = none) : (hidT h H).get? b = some o :=
  PySem.W.hideAll_get _ e fun hm => by
    have q : (H b).isSome = true := (List.mem_filter.mp hm).2
    rw [n] at q; simp at q
theorem of_hidT {h : Heap} {H : Hp} {b : Addr} {o : Obj} (e : (hidT h H).get? b = some o) : h.get? b = some o ∧ H b = none := by
  have e' : h.get? b = some o := PySem.W.of_hideAll (trk h H) e
  refine ⟨e', ?_⟩
  cases q : H b with
  | none => rfl
  | some x =>
    have hm : b ∈ trk h H := List.mem_filter.mpr ⟨List.mem_range.mpr (Heap.lt_size e'), by simp [q]⟩
    have z : (hidT h H).get? b = none := PySem.W.hideAll_none (trk h H) hm
    rw [z] at e; cases e
def allNews (g h : Heap) (L : Addr) : List (Addr × Obj) := (List.range h.objs.size).filterMap fun a => if a = L ∨ (g.get? a).isSome = true then none else (h.get? a).map fun o => (a, o)
theorem mem_allNews {g h : Heap} {L a : Addr} {o : Obj} (h1 : a ≠ L) (h2 : g.get? a = none) (h3 : h.get? a = some o) : (a, o) ∈ allNews g h L :=
  List.mem_filterMap.mpr ⟨a, List.mem_range.mpr (Heap.lt_size h3), by simp [h1, h2, h3]⟩
theorem of_mem_allNews {g h : Heap} {L : Addr} {p : Addr × Obj} (hp : p ∈ allNews g h L) : p.1 ≠ L ∧ g.get? p.1 = none ∧ h.get? p.1 = some p.2 := by
  obtain ⟨b, _, e⟩ := List.mem_filterMap.mp hp
  split at e
  · cases e
  · rename_i hn
    cases q : h.get? b with
    | none => rw [q] at e; simp at e
    | some u =>
      rw [q] at e
      simp only [Option.map_some, Option.some.injEq] at e
      subst e
      refine ⟨fun z => hn (.inl z), ?_, q⟩
      show g.get? b = none
      cases r : g.get? b with
      | none => rfl
      | some v => exact (hn (.inr (by simp [r]))).elim
def rest (g h : Heap) (L d : Addr) : List (Addr × Obj) := (allNews g h L).filter fun p => decide (p.1 ≠ d)
theorem news_all {g h : Heap} {L : Addr} : News g L h (allNews g h L) := fun p hp => let ⟨a, b, c⟩ := of_mem_allNews hp; ⟨c, a, b⟩
end L2
namespace L2
open PySem PySem.Spec PyProof.Rows
structure Mod (K : PySem.W.Frag) (mg : Str → Option Value) (base : Heap) : Prop where
  kin : K.In base
  glob : base.Ns mainGlobals mg
  blt : ∃ mb, base.Ns builtinsNs mb ∧ ∀ x : Str, x ≠ "__name__" → mb x = bootBuiltins x
  nolimit : base.NoLimit
structure Cx where
  prog : Program
  w : World
  K : PySem.W.Frag
  mg : Str → Option Value
  base : Heap
  A : Around
  N : List Str
  s₀ : Shared
  H₀ : Hp
  env : Env
  outer : List Env
  stack : List Env
  ex : List Addr
  fn : Str → Bool
  calm : Bool
  pn : List (Addr × Obj)
  xe : Value → Shared → Prop
def frs (l : List Env) : List Addr := l.filterMap (·.frame)
abbrev Cx.fs (X : Cx) : List Addr := frs X.outer
def Vis (sc : Scope) (x : Str) : Prop := sc.names.lookup x = some .local ∨ sc.names.lookup x = some .cell ∨ sc.names.lookup x = some .free
def Loc (sc : Scope) (x : Str) : Prop := sc.names.lookup x = some .local ∨ sc.names.lookup x = some .cell
def Look (env : Env) (h : Heap) (m : Str → Option Value) (x : Str) (u : Value) : Prop :=
  (env.kindOf x = some .local ∧ m x = some u) ∨ ((env.kindOf x = some .cell ∨ env.kindOf x = some .free) ∧ ∃ c, env.cells.lookup x = some c ∧ h.IsCell c (some u))
structure Cx.Ok (X : Cx) : Prop where
  mod : Mod X.K X.mg X.base
  kind : X.env.scope.kind = .function
  glob : X.env.globals = mainGlobals
  blt : X.env.builtins = builtinsNs
  above : X.s₀.heap.objs.size ≤ X.env.locals
  inj : ∀ x y c, X.env.cells.lookup x = some c → X.env.cells.lookup y = some c → x = y
  has : ∀ x, (X.env.kindOf x = some .cell ∨ X.env.kindOf x = some .free) → ∃ c, X.env.cells.lookup x = some c
  cab : ∀ x c, X.fn x = true → X.env.cells.lookup x = some c → X.s₀.heap.objs.size ≤ c
  hd : X.calm = true → X.A.handled = none
  frames : X.A.frames = some X.stack
  stk : X.stack = X.outer ∨ (X.stack = X.env :: X.outer ∧ X.env.frame = some X.env.locals)
  exf : ∀ b ∈ X.ex, b ≠ X.env.locals ∧ ∀ x c, X.env.cells.lookup x = some c → c ≠ b
  bs : ∀ b o, X.base.get? b = some o → X.s₀.heap.get? b = some o ∧ X.H₀ b = none
  bsz : X.base.objs.size ≤ X.s₀.heap.objs.size
  noex : ∀ b o, X.base.get? b = some o → b ∉ X.ex
  exfs : ∀ b ∈ X.ex, b ∉ X.fs
  funs : X.s₀.heap.FunFrames X.base X.outer
  frf : ∀ b ∈ X.fs, X.H₀ b = none
structure Inv (X : Cx) (pins : List (Addr × Obj)) (σ : List (Option V)) (H : Hp) (s : Shared) : Prop where
  ok : X.Ok
  os : s.os = X.s₀.os
  bare : AllBare s.gens
  base : Un X.fs X.ex X.H₀ H X.s₀.heap s.heap
  loc : ∃ m, s.heap.Ns X.env.locals m ∧ ∀ (i : Nat) (x : Str) (v : V), X.N[i]? = some x → σ[i]? = some (some v) → Vis X.env.scope x → ∃ u, RelV v u ∧ Look X.env s.heap m x u
  cell : ∀ x c, X.env.cells.lookup x = some c → ∃ v, s.heap.IsCell c v
  free : H X.env.locals = none
  freeC : ∀ x c, X.env.cells.lookup x = some c → H c = none
  pin : ∀ p ∈ X.pn ++ pins, s.heap.get? p.1 = some p.2 ∧ H p.1 = none ∧ p.1 ≠ X.env.locals ∧ p.1 ∉ X.fs ∧ ∀ v, p.2.data ≠ .cell v
  hok : HOk X.prog X.w H s.heap
  len : σ.length = X.N.length
section
variable {X : Cx} {pins : List (Addr × Obj)} {σ : List (Option V)} {H H' : Hp} {s : Shared} {h' : Heap}
theorem Cx.Ok.nofr (ok : X.Ok) {b : Addr} {o : Obj} (e : X.base.get? b = some o) : b ∉ X.fs := fun hb => by
  have := (ok.funs.mem hb).1
  rw [e] at this; cases this
theorem Inv.bs (I : Inv X pins σ H s) : ∀ b o, X.base.get? b = some o → s.heap.get? b = some o ∧ H b = none := fun b o e =>
  ⟨I.base.keep b o (I.ok.bs b o e).1 (I.ok.bs b o e).2 (I.ok.nofr e) (I.ok.noex b o e), I.base.free b o (I.ok.bs b o e).1 (I.ok.bs b o e).2 (I.ok.noex b o e)⟩
theorem Inv.bk (I : Inv X pins σ H s) : ∀ b o, X.base.get? b = some o → s.heap.get? b = some o := fun b o e => (I.bs b o e).1
theorem Inv.mod (I : Inv X pins σ H s) : Mod X.K X.mg X.base := I.ok.mod
theorem Inv.kIn (I : Inv X pins σ H s) : X.K.In s.heap := I.ok.mod.kin.keeps I.bk
theorem Inv.nolimit (I : Inv X pins σ H s) : s.heap.NoLimit := I.ok.mod.nolimit.keeps I.bk
theorem Inv.fr (I : Inv X pins σ H s) : ∃ m, Fr X.base X.env.locals s.heap m :=
  let ⟨m, hn, _⟩ := I.loc
  ⟨m, hn, I.bk, Nat.le_trans I.ok.bsz I.ok.above⟩
theorem Inv.lt (I : Inv X pins σ H s) : X.env.locals < s.heap.objs.size := let ⟨_, hn, _⟩ := I.loc; hn.lt
theorem Inv.sz (I : Inv X pins σ H s) : X.s₀.heap.objs.size ≤ s.heap.objs.size := Nat.le_trans I.ok.above (Nat.le_of_lt I.lt)
theorem Inv.nofs (I : Inv X pins σ H s) {a : Addr} (h : s.heap.objs.size ≤ a) : a ∉ X.fs := fun hb => by
  obtain ⟨_, o, ho, _⟩ := I.ok.funs.mem hb
  exact absurd (Nat.lt_of_lt_of_le (Heap.lt_size ho) (Nat.le_trans I.sz h)) (Nat.lt_irrefl _)
theorem Inv.cne (I : Inv X pins σ H s) : ∀ x c, X.env.cells.lookup x = some c → c ≠ X.env.locals := fun x c e z => by
  obtain ⟨v, o, ho, hd⟩ := I.cell x c e
  obtain ⟨m, ⟨o', es, ep, ho', hd', _⟩, _⟩ := I.loc
  rw [z, ho'] at ho; cases ho; rw [hd'] at hd; cases hd
theorem Inv.funs (I : Inv X pins σ H s) : s.heap.FunFrames X.base X.outer := by
  have all : ∀ (l : List Env), (∀ b ∈ frs l, b ∈ X.fs) → X.s₀.heap.FunFrames X.base l → s.heap.FunFrames X.base l := by
    intro l
    induction l with
    | nil => intro _ _; trivial
    | cons env r ih =>
      intro hs hl
      obtain ⟨hk, ⟨L, o, hf, hn, ho, hd⟩, hr⟩ := hl
      have hL : L ∈ X.fs := hs L (by unfold frs; rw [List.filterMap_cons, hf]; exact List.mem_cons_self)
      obtain ⟨sl, e⟩ := I.base.slot L o ho (I.ok.frf L hL) hL fun z => I.ok.exfs L z hL
      exact ⟨hk, ⟨L, _, hf, hn, e, hd⟩, ih (fun b hb => hs b (by unfold frs; rw [List.filterMap_cons, hf]; exact List.mem_cons_of_mem _ hb)) hr⟩
  exact all X.outer (fun _ hb => hb) I.ok.funs
theorem Inv.stack (I : Inv X pins σ H s) : s.heap.FunFrames X.base X.stack := by
  rcases I.ok.stk with e | ⟨e, hf⟩
  · rw [e]; exact I.funs
  · rw [e]
    obtain ⟨m, hn, _⟩ := I.loc
    refine .cons (by rw [I.ok.kind]; decide) hf hn ?_ I.funs
    exact Heap.get?_none_of_le (Nat.le_trans I.ok.bsz I.ok.above)
theorem Inv.stkSub (I : Inv X pins σ H s) : ∀ b ∈ frs X.stack, b ∈ X.env.locals :: X.fs := fun b hb => by
  rcases I.ok.stk with e | ⟨e, hf⟩
  · rw [e] at hb; exact List.mem_cons_of_mem _ hb
  · rw [e] at hb
    unfold frs at hb
    rw [List.filterMap_cons, hf] at hb
    exact hb
theorem Inv.stkFree (I : Inv X pins σ H s) : ∀ b ∈ frs X.stack, H b = none := fun b hb => by
  rcases List.mem_cons.mp (I.stkSub b hb) with e | hb
  · rw [e]; exact I.free
  · obtain ⟨_, o, ho, _⟩ := I.ok.funs.mem hb
    exact I.base.free b o ho (I.ok.frf b hb) fun z => I.ok.exfs b z hb
theorem Inv.step {g' : Array GenState} {t' : Nat} {d' : Drawn} {ch : List Addr} (I : Inv X pins σ H s)
    (hch : ∀ b ∈ ch, (b ∈ X.ex ∨ X.s₀.heap.objs.size ≤ b) ∧ b ≠ X.env.locals ∧ (∀ x c, X.env.cells.lookup x = some c → c ≠ b) ∧ ∀ p ∈ X.pn ++ pins, p.1 ≠ b)
    (keep : ∀ b o, b ≠ X.env.locals → b ∉ X.fs → b ∉ ch → s.heap.get? b = some o → H b = none → h'.get? b = some o)
    (slot : ∀ b o, b ≠ X.env.locals → b ∈ X.fs → b ∉ ch → s.heap.get? b = some o → H b = none → ∃ sl, h'.get? b = some { o with slots := sl }) (free : ∀ b o, b ∉ ch → s.heap.get? b = some o → H b = none → H' b = none)
    (there : ∀ b o, b ∉ ch → s.heap.get? b = some o → ∃ o', h'.get? b = some o')
    (tups : ∀ b xs, H b = some (.tup xs) → H' b = some (.tup xs)) (frzs : ∀ b o u, H b = some (.frz o u) → H' b = some (.frz o u)) (tbls : ∀ b ps, H b = some (.tbl ps) → ∃ more, H' b = some (.tbl (ps ++ more)))
    (ns : ∀ m, s.heap.Ns X.env.locals m → h'.Ns X.env.locals m) (hok : HOk X.prog X.w H' h') (hg : AllBare g') :
    Inv X pins σ H' { s with heap := h', gens := g', drawn := d', toks := t' } := by
  have neL : ∀ b o, X.s₀.heap.get? b = some o → b ≠ X.env.locals := fun b o e => Nat.ne_of_lt (Nat.lt_of_lt_of_le (Heap.lt_size e) I.ok.above)
  have neC : ∀ b o, X.s₀.heap.get? b = some o → b ∉ X.ex → b ∉ ch := fun b o e hx hb => by
    rcases (hch b hb).1 with z | z
    · exact hx z
    · exact absurd (Nat.lt_of_lt_of_le (Heap.lt_size e) z) (Nat.lt_irrefl _)
  have cellK : ∀ x c, X.env.cells.lookup x = some c → ∀ v, s.heap.IsCell c v → h'.IsCell c v := fun x c e v ⟨o, ho, hd⟩ => by
    have nch : c ∉ ch := fun z => (hch c z).2.2.1 x c e rfl
    by_cases hc : c ∈ X.fs
    · obtain ⟨sl, q⟩ := slot c o (I.cne x c e) hc nch ho (I.freeC x c e)
      exact ⟨_, q, hd⟩
    · exact ⟨o, keep c o (I.cne x c e) hc nch ho (I.freeC x c e), hd⟩
  refine ⟨I.ok, I.os, hg, ⟨fun b o e n hb hx => ?_, fun b o e n hb hx => ?_, fun b o e n hx => ?_, fun b o e hx => ?_, fun b xs e => tups b xs (I.base.tups b xs e), fun b o xs e => frzs b o xs (I.base.frzs b o xs e), fun b ps e => ?_⟩, ?_, fun x c e => ?_, ?_, fun x c e => ?_, fun p hp => ?_, hok, I.len⟩
  · exact keep b o (neL b o e) hb (neC b o e hx) (I.base.keep b o e n hb hx) (I.base.free b o e n hx)
  · obtain ⟨sl, e1⟩ := I.base.slot b o e n hb hx
    obtain ⟨sl', e2⟩ := slot b _ (neL b o e) hb (neC b o e hx) e1 (I.base.free b o e n hx)
    exact ⟨sl', e2⟩
  · obtain ⟨o', e1⟩ := I.base.there b o e hx
    exact free b o' (neC b o e hx) e1 (I.base.free b o e n hx)
  · obtain ⟨o', e1⟩ := I.base.there b o e hx
    exact there b o' (neC b o e hx) e1
  · obtain ⟨m1, e1⟩ := I.base.tbls b ps e
    obtain ⟨m2, e2⟩ := tbls b _ e1
    exact ⟨m1 ++ m2, by rw [e2, Array.append_assoc]⟩
  · obtain ⟨m, hn, hl⟩ := I.loc
    refine ⟨m, ns m hn, fun i x v e1 e2 e3 => ?_⟩
    obtain ⟨u, r, l⟩ := hl i x v e1 e2 e3
    refine ⟨u, r, ?_⟩
    rcases l with l | ⟨k, c, e, z⟩
    · exact .inl l
    · exact .inr ⟨k, c, e, cellK x c e _ z⟩
  · obtain ⟨v, z⟩ := I.cell x c e
    exact ⟨v, cellK x c e v z⟩
  · obtain ⟨m, ⟨o, _, _, ho, _⟩, _⟩ := I.loc
    exact free _ o (fun z => (hch _ z).2.1 rfl) ho I.free
  · obtain ⟨v, o, ho, hd⟩ := I.cell x c e
    exact free c o (fun z => (hch c z).2.2.1 x c e rfl) ho (I.freeC x c e)
  · obtain ⟨e, n, ne, nf, d⟩ := I.pin p hp
    have nch : p.1 ∉ ch := fun z => (hch p.1 z).2.2.2 p hp rfl
    exact ⟨keep p.1 p.2 ne nf nch e n, free p.1 p.2 nch e n, ne, nf, d⟩
theorem Inv.un {t' : Nat} (I : Inv X pins σ H s) (u : Un X.fs [] H H' s.heap h') (hok : HOk X.prog X.w H' h') : Inv X pins σ H' { s with heap := h', toks := t' } := by
  obtain ⟨m, ⟨o, es, ep, ho, r⟩, _⟩ := id I.loc
  obtain ⟨sl, hL⟩ := u.any ho I.free (by simp)
  exact I.step (g' := s.gens) (d' := s.drawn) (ch := []) (fun _ z => nomatch z) (fun b o _ hb _ e n => u.keep b o e n hb (by simp)) (fun b o _ hb _ e n => u.slot b o e n hb (by simp)) (fun b o _ e n => u.free b o e n (by simp)) (fun b o _ e => u.there b o e (by simp)) u.tups u.frzs u.tbls (fun m' hm => by
    obtain ⟨o', es', ep', ho', r'⟩ := hm
    rw [ho] at ho'; cases ho'
    exact ⟨_, es', ep', hL, r'⟩) hok I.bare
theorem Inv.call {g' : Array GenState} {t' : Nat} {d' : Drawn} {ch : List Addr} (I : Inv X pins σ H s) (u : Un (frs X.stack) ch H H' s.heap h') (hok : HOk X.prog X.w H' h') (hg : AllBare g')
    (hch : ∀ b ∈ ch, (b ∈ X.ex ∨ X.s₀.heap.objs.size ≤ b) ∧ b ≠ X.env.locals ∧ (∀ x c, X.env.cells.lookup x = some c → c ≠ b) ∧ ∀ p ∈ X.pn ++ pins, p.1 ≠ b) :
    Inv X pins σ H' { s with heap := h', gens := g', drawn := d', toks := t' } := by
  obtain ⟨m, ⟨o, es, ep, ho, r⟩, _⟩ := id I.loc
  obtain ⟨sl, hL⟩ := u.any ho I.free fun z => (hch _ z).2.1 rfl
  exact I.step (ch := ch) hch (fun b o hL hb hc e n => u.keep b o e n (fun z => (List.mem_cons.mp (I.stkSub b z)).elim hL hb) hc) (fun b o _ _ hc e n => u.any e n hc) (fun b o hc e n => u.free b o e n hc) (fun b o hc e => u.there b o e hc) u.tups u.frzs u.tbls (fun m' hm => by
    obtain ⟨o', es', ep', ho', r'⟩ := hm
    rw [ho] at ho'; cases ho'
    exact ⟨_, es', ep', hL, r'⟩) hok hg
theorem Inv.turned {t' : Nat} {it : Addr} (I : Inv X pins σ H s) (k : ∀ b o, b ≠ it → s.heap.get? b = some o → h'.get? b = some o) (hn : H it = none) (hL : it ≠ X.env.locals)
    (h1 : it ∈ X.ex ∨ X.s₀.heap.objs.size ≤ it) (h2 : ∀ x c, X.env.cells.lookup x = some c → c ≠ it) (h3 : ∀ p ∈ X.pn ++ pins, p.1 ≠ it) : Inv X pins σ H { s with heap := h', toks := t' } := by
  have nit : ∀ b u, H b = some u → b ≠ it := fun b u e z => by rw [z, hn] at e; cases e
  refine I.step (g' := s.gens) (d' := s.drawn) (ch := [it]) (fun b hb => ?_) (fun b o _ _ hc e _ => k b o (fun z => hc (by simp [z])) e) (fun b o _ _ hc e _ => ⟨o.slots, k b o (fun z => hc (by simp [z])) e⟩) (fun _ _ _ _ n => n)
    (fun b o hc e => ⟨o, k b o (fun z => hc (by simp [z])) e⟩) (fun _ _ e => e) (fun _ _ _ e => e) (fun b ps e => ⟨#[], by rw [e]; simp⟩) (fun m hm => ?_) (fun b u e => ?_) I.bare
  · have e : b = it := by simpa using hb
    subst e
    exact ⟨h1, hL, h2, h3⟩
  · obtain ⟨o, es, ep, ho, r⟩ := hm
    exact ⟨o, es, ep, k _ o (Ne.symm hL) ho, r⟩
  · refine (I.hok b u e).stay (fun c v hc q => k c v ?_ q) (fun _ q => q) fun _ _ q => q
    rcases hc with z | z
    · rw [z]; exact nit b u e
    · exact nit c _ z
theorem Inv.tok (I : Inv X pins σ H s) (t : Nat) : Inv X pins σ H { s with toks := t } := I.un (h' := s.heap) (t' := t) Un.refl I.hok
theorem Inv.kept {t' : Nat} (I : Inv X pins σ H s) (k : ∀ b u, s.heap.get? b = some u → h'.get? b = some u) : Inv X pins σ H { s with heap := h', toks := t' } := I.un (Un.kept k) (I.hok.kept k)
theorem Inv.laid {a : Addr} {o : HO} {t' : Nat} (I : Inv X pins σ H s) (k : ∀ b u, s.heap.get? b = some u → h'.get? b = some u) (hp : s.heap.objs.size ≤ a) (new : ObjOk X.prog X.w (upd H a o) h' a o) :
    Inv X pins σ (upd H a o) { s with heap := h', toks := t' } := I.un (Un.laid k hp (I.hok.fresh hp)) (I.hok.laid k hp new)
theorem Inv.write {x e : Addr} {o : HO} {t' : Nat} (I : Inv X pins σ H s) (mu : Mut (H x)) (he : e = x ∨ H e = some (.own x)) (k : ∀ b u, b ≠ e → s.heap.get? b = some u → h'.get? b = some u) (heo : ∃ u, h'.get? e = some u)
    (new : ObjOk X.prog X.w (upd H x o) h' x o) : Inv X pins σ (upd H x o) { s with heap := h', toks := t' } := I.un (Un.write mu he k heo) (I.hok.write mu he k heo new)
theorem Inv.pins_of {pins' : List (Addr × Obj)} (I : Inv X pins σ H s) (h : ∀ p ∈ pins', s.heap.get? p.1 = some p.2 ∧ H p.1 = none ∧ p.1 ≠ X.env.locals ∧ p.1 ∉ X.fs ∧ ∀ v, p.2.data ≠ .cell v) : Inv X pins' σ H s :=
  ⟨I.ok, I.os, I.bare, I.base, I.loc, I.cell, I.free, I.freeC, fun p hp => (List.mem_append.mp hp).elim (fun z => I.pin p (List.mem_append_left _ z)) (h p), I.hok, I.len⟩
theorem nodup_ix {N : List Str} (hN : N.Nodup) {i j : Nat} {x : Str} (a : N[i]? = some x) (b : N[j]? = some x) : i = j := by
  obtain ⟨h1, e1⟩ := List.getElem?_eq_some_iff.mp a
  obtain ⟨h2, e2⟩ := List.getElem?_eq_some_iff.mp b
  exact (List.getElem_inj hN).mp (e1.trans e2.symm)
theorem store_ok2 {M : Model} {A : Around} {E : Value → Shared → Prop} {i : Nat} {x : Str} {v : V} {u : Value} {Q : Unit → Shared → Prop} (I : Inv X pins σ H s) (hN : X.N.Nodup) (hi : X.N[i]? = some x) (hx : Loc X.env.scope x) (r : RelV v u)
    (h : ∀ s', Inv X pins (σ.set i (some v)) H s' → (∃ a, Heap.SameBut a s.heap s'.heap ∧ (a = X.env.locals ∨ X.env.cells.lookup x = some a)) → Q () s') (hf : X.fn x = true ∨ X.env.scope.names.lookup x = some .local := by first | exact .inl rfl | exact .inr rfl | assumption) : wpAny M A (storeName X.env x u) Q E s := by
  obtain ⟨m, hn, hl⟩ := id I.loc
  have hcls : (X.env.scope.kind == .class || (X.env.scope.kind == .module && X.env.locals != X.env.globals)) = false := by rw [I.ok.kind]; rfl
  have hiσ : i < σ.length := by rw [I.len]; exact (List.getElem?_eq_some_iff.mp hi).1
  have cne := I.cne
  have tracked : ∀ {a : Addr} {h' : Heap}, (∃ o, s.heap.get? a = some o ∧ H a = none) → Heap.SameBut a s.heap h' → HOk X.prog X.w H h' := fun {a h'} ha hs b ob e => by
    obtain ⟨_, _, hfree⟩ := ha
    refine (I.hok b ob e).stay (fun c w' hc q => (hs.2 c ?_).trans q) (fun _ q => q) fun _ _ q => q
    rintro rfl
    rcases hc with rfl | hc
    · rw [hfree] at e; cases e
    · rw [hfree] at hc; cases hc
  rcases hx with hk | hk
  · refine wpAny_storeName_local hk hn (fun h' hn' hs => ?_) hcls
    obtain ⟨oL, _, _, hoL, _⟩ := id hn
    refine h _ ⟨I.ok, I.os, I.bare, ⟨fun b o e n hb hx => ?_, fun b o e n hb hx => ?_, I.base.free, fun b o e hx => ?_, I.base.tups, I.base.frzs, I.base.tbls⟩, ⟨_, hn', fun j y v' e1 e2 e3 => ?_⟩, fun y c e => ?_, I.free, I.freeC, fun p hp => ?_, tracked ⟨oL, hoL, I.free⟩ hs, by simpa using I.len⟩ ⟨_, hs, .inl rfl⟩
    · exact (hs.2 b (Nat.ne_of_lt (Nat.lt_of_lt_of_le (Heap.lt_size e) I.ok.above))).trans (I.base.keep b o e n hb hx)
    · obtain ⟨sl, e1⟩ := I.base.slot b o e n hb hx
      exact ⟨sl, (hs.2 b (Nat.ne_of_lt (Nat.lt_of_lt_of_le (Heap.lt_size e) I.ok.above))).trans e1⟩
    · obtain ⟨o', e1⟩ := I.base.there b o e hx
      exact ⟨o', (hs.2 b (Nat.ne_of_lt (Nat.lt_of_lt_of_le (Heap.lt_size e) I.ok.above))).trans e1⟩
    · by_cases hj : j = i
      · subst hj
        rw [hi] at e1; cases e1
        rw [List.getElem?_set_self hiσ] at e2
        cases e2
        exact ⟨u, r, .inl ⟨hk, by simp⟩⟩
      · rw [List.getElem?_set_ne (Ne.symm hj)] at e2
        obtain ⟨u', r', q⟩ := hl j y v' e1 e2 e3
        refine ⟨u', r', ?_⟩
        rcases q with ⟨k, e⟩ | ⟨k, c, e, z⟩
        · refine .inl ⟨k, ?_⟩
          have : y ≠ x := fun e => hj (nodup_ix hN e1 (e ▸ hi))
          simp [this, e]
        · exact .inr ⟨k, c, e, z.sameBut hs (cne y c e)⟩
    · obtain ⟨w', z⟩ := I.cell y c e
      exact ⟨w', z.sameBut hs (cne y c e)⟩
    · obtain ⟨e, n, ne, nf, d⟩ := I.pin p hp
      exact ⟨(hs.2 p.1 ne).trans e, n, ne, nf, d⟩
  · have hfn : X.fn x = true := by
      rcases hf with z | z
      · exact z
      · rw [z] at hk; cases hk
    obtain ⟨c, hc⟩ := I.ok.has x (.inl hk)
    obtain ⟨w', z⟩ := I.cell x c hc
    refine wpAny_storeName_cell I.ok.kind hk hc z (fun h' hc' hs => ?_)
    obtain ⟨oc, hoc, hocd⟩ := id z
    refine h { s with heap := h' } ⟨I.ok, I.os, I.bare, ⟨fun b o e n hb hx => ?_, fun b o e n hb hx => ?_, I.base.free, fun b o e hx => ?_, I.base.tups, I.base.frzs, I.base.tbls⟩, ⟨m, hn.sameBut hs (Ne.symm (cne x c hc)), fun j y v' e1 e2 e3 => ?_⟩, fun y c' e => ?_, I.free, I.freeC, fun p hp => ?_, tracked ⟨oc, hoc, I.freeC x c hc⟩ hs, by simpa using I.len⟩ ⟨c, hs, .inr hc⟩
    · exact (hs.2 b (Nat.ne_of_lt (Nat.lt_of_lt_of_le (Heap.lt_size e) (I.ok.cab x c hfn hc)))).trans (I.base.keep b o e n hb hx)
    · obtain ⟨sl, e1⟩ := I.base.slot b o e n hb hx
      exact ⟨sl, (hs.2 b (Nat.ne_of_lt (Nat.lt_of_lt_of_le (Heap.lt_size e) (I.ok.cab x c hfn hc)))).trans e1⟩
    · obtain ⟨o', e1⟩ := I.base.there b o e hx
      exact ⟨o', (hs.2 b (Nat.ne_of_lt (Nat.lt_of_lt_of_le (Heap.lt_size e) (I.ok.cab x c hfn hc)))).trans e1⟩
    · by_cases hj : j = i
      · subst hj
        rw [hi] at e1; cases e1
        rw [List.getElem?_set_self hiσ] at e2
        cases e2
        exact ⟨u, r, .inr ⟨.inl hk, c, hc, hc'⟩⟩
      · rw [List.getElem?_set_ne (Ne.symm hj)] at e2
        obtain ⟨u', r', q⟩ := hl j y v' e1 e2 e3
        refine ⟨u', r', ?_⟩
        rcases q with q | ⟨k, c', e, z'⟩
        · exact .inl q
        · refine .inr ⟨k, c', e, z'.sameBut hs ?_⟩
          rintro rfl
          exact hj (nodup_ix hN e1 (I.ok.inj _ _ _ e hc ▸ hi))
    · by_cases hcc : c' = c
      · subst hcc; exact ⟨_, hc'⟩
      · obtain ⟨w2, z2⟩ := I.cell y c' e
        exact ⟨w2, z2.sameBut hs hcc⟩
    · obtain ⟨e, n, ne, nf, d⟩ := I.pin p hp
      refine ⟨(hs.2 p.1 ?_).trans e, n, ne, nf, d⟩
      intro q
      rw [q, hoc] at e
      have q' : oc = p.2 := Option.some.inj e
      exact d w' (by rw [← q']; exact hocd)
theorem store_ok {M : Model} {A : Around} {E : Value → Shared → Prop} {i : Nat} {x : Str} {v : V} {u : Value} {Q : Unit → Shared → Prop} (I : Inv X pins σ H s) (hN : X.N.Nodup) (hi : X.N[i]? = some x) (hx : Loc X.env.scope x) (r : RelV v u)
    (h : ∀ s', Inv X pins (σ.set i (some v)) H s' → Q () s') (hf : X.fn x = true ∨ X.env.scope.names.lookup x = some .local := by first | exact .inl rfl | exact .inr rfl | assumption) : wpAny M A (storeName X.env x u) Q E s :=
  store_ok2 I hN hi hx r (fun s' I' _ => h s' I') hf
theorem Inv.call' {s' : Shared} {ch : List Addr} (I : Inv X pins σ H s) (ho : s'.os = s.os) (u : Un (frs X.stack) ch H H' s.heap s'.heap) (hok : HOk X.prog X.w H' s'.heap) (hg : AllBare s'.gens)
    (hch : ∀ b ∈ ch, (b ∈ X.ex ∨ X.s₀.heap.objs.size ≤ b) ∧ b ≠ X.env.locals ∧ (∀ x c, X.env.cells.lookup x = some c → c ≠ b) ∧ ∀ p ∈ X.pn ++ pins, p.1 ≠ b) : Inv X pins σ H' s' := by
  obtain ⟨h', g', d', t', o'⟩ := s'
  have e : o' = s.os := ho
  subst e
  exact I.call (g' := g') (t' := t') (d' := d') u hok hg hch
end
abbrev XK := Value → Option Addr → Hp → Prop
abbrev St := List (Option V)
abbrev VK := V → Hp → Prop
abbrev TE := St → Hp → VK → Prop
abbrev TT := St → Hp → (Bool → Hp → Prop) → Prop
abbrev TA := St → Hp → (List V → Hp → Prop) → Prop
structure Ends where
  nx : St → Hp → Prop
  rt : VK
  bk : St → Hp → Prop := fun _ _ => False
  ct : St → Hp → Prop := fun _ _ => False
abbrev TS := Ends → St → Hp → Prop
def EP (X : Cx) (pins : List (Addr × Obj)) (σ : St) (Q : VK) (u : Value) (s' : Shared) : Prop := ∃ v H', Inv X pins σ H' s' ∧ RelV v u ∧ Q v H'
def TP (X : Cx) (pins : List (Addr × Obj)) (σ : St) (Q : Bool → Hp → Prop) (b : Bool) (s' : Shared) : Prop := ∃ H', Inv X pins σ H' s' ∧ Q b H'
def AP (X : Cx) (pins : List (Addr × Obj)) (σ : St) (Q : List V → Hp → Prop) (us : List Value) (s' : Shared) : Prop := ∃ vs H', Inv X pins σ H' s' ∧ Vals vs us ∧ Q vs H'
def SP (X : Cx) (pins : List (Addr × Obj)) (D : Ends) (f : Flow) (s' : Shared) : Prop :=
  match f with
  | .next => ∃ σ' H', Inv X pins σ' H' s' ∧ D.nx σ' H'
  | .brk => ∃ σ' H', Inv X pins σ' H' s' ∧ D.bk σ' H'
  | .cont => ∃ σ' H', Inv X pins σ' H' s' ∧ D.ct σ' H'
  | .ret u => ∃ v σ' H', Inv X pins σ' H' s' ∧ RelV v u ∧ D.rt v H'
def PE (X : Cx) (e : Expr) (t : TE) : Prop :=
  ∀ (pins : List (Addr × Obj)) (s : Shared) (σ : St) (H : Hp) (Q : VK), Inv X pins σ H s → t σ H Q → wpAny (model X.prog X.w) X.A (eval e X.env) (EP X pins σ Q) X.xe s
def PT (X : Cx) (e : Expr) (t : TT) : Prop :=
  ∀ (pins : List (Addr × Obj)) (s : Shared) (σ : St) (H : Hp) (Q : Bool → Hp → Prop), Inv X pins σ H s → t σ H Q → wpAny (model X.prog X.w) X.A (isTrue e X.env (eval e X.env)) (TP X pins σ Q) X.xe s
def PW (X : Cx) (e : Expr) (t : TT) : Prop :=
  ∀ (whole : Sem Value) (pins : List (Addr × Obj)) (s : Shared) (σ : St) (H : Hp) (Q : Bool → Hp → Prop), Inv X pins σ H s → t σ H Q → wpAny (model X.prog X.w) X.A (isTrue e X.env whole) (TP X pins σ Q) X.xe s
theorem PW.pt {X : Cx} {e : Expr} {t : TT} (h : PW X e t) : PT X e t := h _
def PA (X : Cx) (es : List Expr) (t : TA) : Prop :=
  ∀ (pos : Pos) (pins : List (Addr × Obj)) (s : Shared) (σ : St) (H : Hp) (Q : List V → Hp → Prop), Inv X pins σ H s → t σ H Q → wpAny (model X.prog X.w) X.A (spliced (backTo pos (starEach es X.env))) (AP X pins σ Q) X.xe s
def PS (X : Cx) (st : Stmt) (t : TS) : Prop :=
  ∀ (pins : List (Addr × Obj)) (s : Shared) (σ : St) (H : Hp) (D : Ends), Inv X pins σ H s → t D σ H → wpAny (model X.prog X.w) X.A (exec st X.env) (SP X pins D) X.xe s
def PSs (X : Cx) (st : List Stmt) (t : TS) : Prop :=
  ∀ (pins : List (Addr × Obj)) (s : Shared) (σ : St) (H : Hp) (D : Ends), Inv X pins σ H s → t D σ H → wpAny (model X.prog X.w) X.A (execs st X.env) (SP X pins D) X.xe s
theorem thn {α : Type} {t : Sem α} {Q Q' : α → Shared → Prop} {M : Model} {A : Around} {E : Value → Shared → Prop} {s : Shared} (h : wpAny M A t Q E s) (hQ : ∀ a s, Q a s → Q' a s) : wpAny M A t Q' E s := wpAny_mono h hQ fun _ _ x => x
end L2
namespace L2
open PySem PySem.Spec PyProof.Rows
section
variable {X : Cx}
def tVar (i : Nat) : TE := fun σ H Q => ∃ v, σ[i]? = some (some v) ∧ Q v H
def tC (v : V) : TE := fun _ H Q => Q v H
theorem pe_var {i : Nat} {x : Str} {pos : Pos} (hN : X.N[i]? = some x) (hv : Vis X.env.scope x) (hd : (x == ("__debug__" : Str)) = false := by decide) (hcd : (x == ("__classdict__" : Str)) = false := by decide) : PE X (.Name x pos) (tVar i) := by
  intro pins s σ H Q I h
  obtain ⟨v, e, h⟩ := h
  obtain ⟨m, hn, hl⟩ := I.loc
  obtain ⟨u, r, l⟩ := hl i x v hN e hv
  have fin : EP X pins σ Q u s := ⟨v, H, I, r, h⟩
  rcases l with ⟨hk, hm⟩ | ⟨hk, c, hc, hcell⟩
  · exact wpAny_Name (wpAny_loadName_local I.ok.kind hk hn hm fin) hd
  · rcases hk with hk | hk
    · exact wpAny_Name (wpAny_loadName_cell I.ok.kind hk hc hcell fin) hd
    · exact wpAny_Name (wpAny_loadName_free I.ok.kind hk hc hcell fin hcd) hd
theorem pe_int {i j pos} : PE X (.Constant (.int i) j pos) (tC (.int i)) := fun _ _ _ H _ I h => wpAny_Constant_int ⟨.int i, H, I.tok _, ⟨_, rfl⟩, h⟩
theorem pe_bl {b j pos} : PE X (.Constant (.bool b) j pos) (tC (.bl b)) := fun _ _ _ H _ I h => Constant_bool ⟨.bl b, H, I, rfl, h⟩
theorem pe_non {j pos} : PE X (.Constant .none j pos) (tC .non) := fun _ _ _ H _ I h => Constant_none ⟨.non, H, I, rfl, h⟩
theorem pe_str {x j pos} : PE X (.Constant (.str x) j pos) (tC (.str x)) := fun _ _ _ H _ I h => Calls.Constant_str ⟨.str x, H, I.tok _, ⟨_, rfl⟩, h⟩
def Gl (X : Cx) (x : Str) : Prop := X.env.kindOf x = some .globalImplicit
theorem ld_glob {E : Value → Shared → Prop} {pins : List (Addr × Obj)} {s : Shared} {σ : St} {H : Hp} {x : Str} {u : Value} {pos : Pos} {Q : Value → Shared → Prop} (I : Inv X pins σ H s) (hg : Gl X x) (hm : X.mg x = some u) (h : Q u s)
    (hd : (x == ("__debug__" : Str)) = false := by decide) : wpAny (model X.prog X.w) X.A (eval (.Name x pos) X.env) Q E s :=
  Calls.Name_function_global I.ok.kind hg (Calls.loadGlobal_global (by rw [I.ok.glob]; exact I.mod.glob.keeps I.bk) hm h) hd
theorem ld_blt {E : Value → Shared → Prop} {pins : List (Addr × Obj)} {s : Shared} {σ : St} {H : Hp} {x : Str} {u : Value} {pos : Pos} {Q : Value → Shared → Prop} (I : Inv X pins σ H s) (hg : Gl X x) (hm : X.mg x = none) (hv : bootBuiltins x = some u) (h : Q u s)
    (hn : x ≠ "__name__" := by decide) (hd : (x == ("__debug__" : Str)) = false := by decide) : wpAny (model X.prog X.w) X.A (eval (.Name x pos) X.env) Q E s := by
  obtain ⟨mb, h1, h2⟩ := I.mod.blt
  exact Calls.Name_function_global I.ok.kind hg (Calls.loadGlobal_builtin (by rw [I.ok.glob]; exact I.mod.glob.keeps I.bk) hm (by rw [I.ok.blt]; exact h1.keeps I.bk) ((h2 x hn).trans hv) h) hd
theorem pe_glob {x : Str} {v : V} {u : Value} {pos : Pos} (hg : Gl X x) (hm : X.mg x = some u) (r : RelV v u) (hd : (x == ("__debug__" : Str)) = false := by decide) : PE X (.Name x pos) (tC v) :=
  fun _ _ _ H _ I h => ld_glob I hg hm ⟨v, H, I, r, h⟩ hd
theorem pe_bltn {x : Str} {v : V} {u : Value} {pos : Pos} (hg : Gl X x) (hm : X.mg x = none) (hv : bootBuiltins x = some u) (r : RelV v u) (hn : x ≠ "__name__" := by decide) (hd : (x == ("__debug__" : Str)) = false := by decide) : PE X (.Name x pos) (tC v) :=
  fun _ _ _ H _ I h => ld_blt I hg hm hv ⟨v, H, I, r, h⟩ hn hd
def t2I (ta tb : TE) (k : Int → Int → Hp → Prop) : St → Hp → Prop := fun σ H => ta σ H fun x H1 => tb σ H1 fun y H2 => ∃ i j, x = .int i ∧ y = .int j ∧ k i j H2
def tAdd (ta tb : TE) : TE := fun σ H Q => t2I ta tb (fun i j H2 => Q (.int (i + j)) H2) σ H
def tSub (ta tb : TE) : TE := fun σ H Q => t2I ta tb (fun i j H2 => Q (.int (i - j)) H2) σ H
def tMul (ta tb : TE) : TE := fun σ H Q => t2I ta tb (fun i j H2 => (-(2 ^ 64) < i ∧ i < 2 ^ 64) ∧ Q (.int (i * j)) H2) σ H
variable {a b : Expr} {ta tb : TE} {pos : Pos}
def PC (X : Cx) (op : CmpOp) (a b : Expr) (t : TE) : Prop :=
  ∀ (pins : List (Addr × Obj)) (s : Shared) (σ : St) (H : Hp) (Q : VK), Inv X pins σ H s → t σ H Q →
    wpAny (model X.prog X.w) X.A (eval a X.env) (fun v s₁ => wpAny (model X.prog X.w) X.A (eval b X.env) (fun u s₂ => wpAny (model X.prog X.w) X.A (compareOp op v u) (EP X pins σ Q) X.xe s₂) X.xe s₁) X.xe s
theorem nobehind (b : Expr) {op : CmpOp} (h : op ≠ .In) (h2 : op ≠ .NotIn) : behindInMarks op b = false := by
  have e1 : (op == CmpOp.In) = false := by cases op <;> first | rfl | exact absurd rfl h
  have e2 : (op == CmpOp.NotIn) = false := by cases op <;> first | rfl | exact absurd rfl h2
  cases b <;> simp [behindInMarks, e1, e2]
def tCmp (p : Int → Int → Bool) (ta tb : TE) : TE := fun σ H Q => t2I ta tb (fun i j H2 => Q (.bl (p i j)) H2) σ H
abbrev tLt : TE → TE → TE := tCmp fun i j => decide (i < j)
abbrev tLe : TE → TE → TE := tCmp fun i j => decide (i ≤ j)
abbrev tGt : TE → TE → TE := tCmp fun i j => decide (j < i)
abbrev tGe : TE → TE → TE := tCmp fun i j => decide (j ≤ i)
abbrev tEqI : TE → TE → TE := tCmp fun i j => decide (i = j)
abbrev tNeI : TE → TE → TE := tCmp fun i j => !decide (i = j)
def tIsN (ta : TE) : TE := fun σ H Q => ta σ H fun x H1 => Q (.bl (decide (x = .non))) H1
def tNotN (ta : TE) : TE := fun σ H Q => ta σ H fun x H1 => Q (.bl (!decide (x = .non))) H1
def tB (t : TE) : TT := fun σ H Q => t σ H fun x H1 => ∃ c, x = .bl c ∧ Q c H1
theorem pt_val {e : Expr} {t : TE} (h : PE X e t) (he : ∀ whole, isTrue e X.env whole = (do let v ← whole; standAt e.pos; holding [v] (truthy v)) := by intro _; rfl) : PT X e (tB t) := by
  intro pins s σ H Q I hw
  refine isTrue_plain (thn (h pins s σ H _ I hw) fun v s1 ⟨x, H1, I1, r1, q1⟩ => ?_) (he _)
  obtain ⟨d, rfl, q⟩ := q1
  cases r1
  exact wpAny_truthy_bool ⟨H1, I1, q⟩
variable {tA tB' : TT} {rest : List Expr}
def tAnd (t u : TT) : TT := fun σ H Q => t σ H fun c H1 => if c = true then u σ H1 Q else Q false H1
def tOr (t u : TT) : TT := fun σ H Q => t σ H fun c H1 => if c = true then Q true H1 else u σ H1 Q
def tNot (t : TT) : TT := fun σ H Q => t σ H fun c H1 => Q (!c) H1
theorem pw_and1 (ha : PT X a tA) : PW X (.BoolOp .And [a] pos) tA := by
  intro wh pins s σ H Q I h
  refine isTrue_and (thn (ha pins s σ H Q I h) fun c s1 e => ?_)
  cases c with
  | true => exact isTrue_and_nil e
  | false => exact e
theorem pw_or1 (ha : PT X a tA) : PW X (.BoolOp .Or [a] pos) tA := by
  intro wh pins s σ H Q I h
  refine isTrue_or (thn (ha pins s σ H Q I h) fun c s1 e => ?_)
  cases c with
  | false => exact isTrue_or_nil e
  | true => exact e
theorem pw_and (ha : PT X a tA) (hb : PW X (.BoolOp .And (b :: rest) pos) tB') : PW X (.BoolOp .And (a :: b :: rest) pos) (tAnd tA tB') := by
  intro wh pins s σ H Q I h
  refine isTrue_and (thn (ha pins s σ H _ I h) fun c s1 ⟨H1, I1, q1⟩ => ?_)
  cases c with
  | true => exact hb wh pins s1 σ H1 Q I1 q1
  | false => exact ⟨H1, I1, q1⟩
theorem pw_or (ha : PT X a tA) (hb : PW X (.BoolOp .Or (b :: rest) pos) tB') : PW X (.BoolOp .Or (a :: b :: rest) pos) (tOr tA tB') := by
  intro wh pins s σ H Q I h
  refine isTrue_or (thn (ha pins s σ H _ I h) fun c s1 ⟨H1, I1, q1⟩ => ?_)
  cases c with
  | true => exact ⟨H1, I1, q1⟩
  | false => exact hb wh pins s1 σ H1 Q I1 q1
theorem pt_not (ha : PT X a tA) : PT X (.UnaryOp .Not a pos) (tNot tA) := by
  intro pins s σ H Q I h
  exact isTrue_not (ha pins s σ H (fun c H1 => Q (!c) H1) I h)
def tAndV (ta tb : TE) : TE := fun σ H Q => ta σ H fun x H1 => ∃ c, x = .bl c ∧ if c = true then tb σ H1 Q else Q (.bl false) H1
def tOrV (ta tb : TE) : TE := fun σ H Q => ta σ H fun x H1 => ∃ c, x = .bl c ∧ if c = true then Q (.bl true) H1 else tb σ H1 Q
def tNotV (ta : TE) : TE := fun σ H Q => ta σ H fun x H1 => ∃ c, x = .bl c ∧ Q (.bl (!c)) H1
theorem pe_one {op} {t : TE} (h : PE X a t) : PE X (.BoolOp op [a] pos) t := fun pins s σ H Q I hw => BoolOp_one (h pins s σ H Q I hw)
theorem pe_and (ha : PE X a ta) (hb : PE X (.BoolOp .And (b :: rest) pos) tb) : PE X (.BoolOp .And (a :: b :: rest) pos) (tAndV ta tb) := by
  intro pins s σ H Q I h
  refine BoolOp_and (thn (ha pins s σ H _ I h) fun v s1 ⟨x, H1, I1, r1, q1⟩ => ?_)
  obtain ⟨c, rfl, q1⟩ := q1
  cases r1
  refine wpAny_truthy_bool ?_
  cases c with
  | true => exact hb pins s1 σ H1 Q I1 q1
  | false => exact ⟨.bl false, H1, I1, rfl, q1⟩
theorem pe_not (ha : PE X a ta) : PE X (.UnaryOp .Not a pos) (tNotV ta) := by
  intro pins s σ H Q I h
  refine UnaryOp_ (thn (ha pins s σ H _ I h) fun v s1 ⟨x, H1, I1, r1, q1⟩ => ?_)
  obtain ⟨c, rfl, q1⟩ := q1
  cases r1
  exact not_of (wpAny_truthy_bool ⟨.bl (!c), H1, I1, rfl, q1⟩)
def tIf (t : TT) (ta tb : TE) : TE := fun σ H Q => t σ H fun c H1 => if c = true then ta σ H1 Q else tb σ H1 Q
end
end L2
namespace L2
open PySem PySem.Spec PyProof.Rows
def SqL (K : PySem.W.Frag) (H : Hp) (a : Addr) (xs : List V) : Prop :=
  Rd H a (.lst xs) ∨
    ∃ (o : Obj) (its : Array Value) (n : Nat), K.lookup a = some o ∧ o.cls = .type "list" ∧ o.dict = none ∧ o.data = .seq its n ∧ its.size ≤ sizeLine ∧ Vals xs its.toList
def SqT (K : PySem.W.Frag) (H : Hp) (a : Addr) (xs : List V) : Prop :=
  Rd H a (.tup xs) ∨
    ∃ (o : Obj) (its : Array Value) (n : Nat), K.lookup a = some o ∧ o.cls = .type "tuple" ∧ o.data = .seq its n ∧ its.size ≤ sizeLine ∧ Vals xs its.toList
def absV : Value → Option V
  | .none => some .non
  | .bool b => some (.bl b)
  | .int i _ => some (.int i)
  | .str x _ => some (.str x)
  | .bytes b _ => some (.byt b)
  | .float b _ => some (.flt b)
  | .ref a => some (.ref a)
  | .type n => some (.ty n)
  | _ => none
theorem RelV.abs {x : V} {u : Value} (r : RelV x u) : absV u = some x := by
  cases x with
  | non => cases r; rfl
  | bl _ => cases r; rfl
  | int _ => obtain ⟨t, rfl⟩ := r; rfl
  | str _ => obtain ⟨t, rfl⟩ := r; rfl
  | byt _ => obtain ⟨t, rfl⟩ := r; rfl
  | flt _ => obtain ⟨t, rfl⟩ := r; rfl
  | ref _ => cases r; rfl
  | ty _ => cases r; rfl
theorem RelV.inj {x y : V} {u : Value} (r : RelV x u) (q : RelV y u) : x = y := Option.some.inj (r.abs.symm.trans q.abs)
theorem Vals.inj : ∀ {xs ys : List V} {us : List Value}, Vals xs us → Vals ys us → xs = ys
  | _, _, _, .nil, .nil => rfl
  | _, _, _, .cons r t, .cons r' t' => by rw [r.inj r', Vals.inj t t']
section
variable {X : Cx} {pins : List (Addr × Obj)} {σ : St} {H : Hp} {s : Shared} {a : Addr} {xs ys : List V}
theorem SqL.of {K : PySem.W.Frag} (h : H a = some (.lst xs)) : SqL K H a xs := .inl (.inl h)
theorem SqT.of {K : PySem.W.Frag} (h : H a = some (.tup xs)) : SqT K H a xs := .inl (.inl h)
theorem Inv.list (I : Inv X pins σ H s) (h : SqL X.K H a xs) : ∃ its : List Value, Vals xs its ∧ PlainL s.heap a its.toArray ∧ xs.length ≤ sizeLine := by
  rcases h with h | ⟨o, its, n, hk, hc, hd, hs, hz, r⟩
  · obtain ⟨z, its, n, r, e⟩ := h.ok I.hok
    exact ⟨its, r, ⟨_, n, e, rfl, rfl, rfl⟩, z⟩
  · refine ⟨its.toList, r, ⟨o, n, I.kIn a o hk, hc, hd, by simpa using hs⟩, ?_⟩
    have e := r.length
    simp only [Array.length_toList] at e
    omega
theorem Inv.tuple (I : Inv X pins σ H s) (h : SqT X.K H a xs) : ∃ its : List Value, Vals xs its ∧ IsTup s.heap a its.toArray ∧ xs.length ≤ sizeLine := by
  rcases h with h | ⟨o, its, n, hk, hc, hs, hz, r⟩
  · obtain ⟨z, its, r, p⟩ := h.ok I.hok
    exact ⟨its, r, p, z⟩
  · refine ⟨its.toList, r, ⟨o, I.kIn a o hk, hc, n, by simpa using hs⟩, ?_⟩
    have e := r.length
    simp only [Array.length_toList] at e
    omega
theorem Inv.list_inj (I : Inv X pins σ H s) (h : SqL X.K H a xs) (h' : SqL X.K H a ys) : xs = ys := by
  obtain ⟨its, r, ⟨o, n, e, _, _, d⟩, _⟩ := I.list h
  obtain ⟨its', r', ⟨o', n', e', _, _, d'⟩, _⟩ := I.list h'
  rw [e] at e'; cases e'
  rw [d] at d'
  injection d' with d1 _
  have : its = its' := by simpa using congrArg Array.toList d1
  subst this
  exact r.inj r'
theorem Inv.tuple_inj (I : Inv X pins σ H s) (h : SqT X.K H a xs) (h' : SqT X.K H a ys) : xs = ys := by
  obtain ⟨its, r, ⟨o, e, _, n, d⟩, _⟩ := I.tuple h
  obtain ⟨its', r', ⟨o', e', _, n', d'⟩, _⟩ := I.tuple h'
  rw [e] at e'; cases e'
  rw [d] at d'
  injection d' with d1 _
  have : its = its' := by simpa using congrArg Array.toList d1
  subst this
  exact r.inj r'
end
abbrev Cx.wish (X : Cx) (E : Value → Shared → Prop) : Cx := { X with xe := E }
abbrev Cx.nox (X : Cx) : Cx := X.wish fun _ _ => False
theorem Cx.Ok.wish {X : Cx} (ok : X.Ok) (E : Value → Shared → Prop) : (X.wish E).Ok :=
  ⟨ok.mod, ok.kind, ok.glob, ok.blt, ok.above, ok.inj, ok.has, ok.cab, ok.hd, ok.frames, ok.stk, ok.exf, ok.bs, ok.bsz, ok.noex, ok.exfs, ok.funs, ok.frf⟩
theorem Cx.Ok.unwish {X : Cx} {E : Value → Shared → Prop} (ok : (X.wish E).Ok) : X.Ok :=
  ⟨ok.mod, ok.kind, ok.glob, ok.blt, ok.above, ok.inj, ok.has, ok.cab, ok.hd, ok.frames, ok.stk, ok.exf, ok.bs, ok.bsz, ok.noex, ok.exfs, ok.funs, ok.frf⟩
section
variable {X : Cx} {pins : List (Addr × Obj)} {σ : St} {H : Hp} {s : Shared} {E : Value → Shared → Prop}
theorem Inv.wish (I : Inv X pins σ H s) (E : Value → Shared → Prop) : Inv (X.wish E) pins σ H s := ⟨I.ok.wish E, I.os, I.bare, I.base, I.loc, I.cell, I.free, I.freeC, I.pin, I.hok, I.len⟩
theorem Inv.unwish (I : Inv (X.wish E) pins σ H s) : Inv X pins σ H s := ⟨I.ok.unwish, I.os, I.bare, I.base, I.loc, I.cell, I.free, I.freeC, I.pin, I.hok, I.len⟩
theorem SP.unwish {D : Ends} {f : Flow} {s' : Shared} (h : SP (X.wish E) pins D f s') : SP X pins D f s' := by
  cases f with
  | next => obtain ⟨σ', H', I, q⟩ := h; exact ⟨σ', H', I.unwish, q⟩
  | brk => obtain ⟨σ', H', I, q⟩ := h; exact ⟨σ', H', I.unwish, q⟩
  | cont => obtain ⟨σ', H', I, q⟩ := h; exact ⟨σ', H', I.unwish, q⟩
  | ret u => obtain ⟨v, σ', H', I, r, q⟩ := h; exact ⟨v, σ', H', I.unwish, r, q⟩
theorem PE.nox {e : Expr} {t : TE} (h : PE X.nox e t) : PE X e t := fun pins s σ H Q I hw =>
  wpAny_mono (h pins s σ H Q (I.wish _) hw) (fun _ _ ⟨v, H', I', r, q⟩ => ⟨v, H', I'.unwish, r, q⟩) fun _ _ z => False.elim z
theorem PT.nox {e : Expr} {t : TT} (h : PT X.nox e t) : PT X e t := fun pins s σ H Q I hw =>
  wpAny_mono (h pins s σ H Q (I.wish _) hw) (fun _ _ ⟨H', I', q⟩ => ⟨H', I'.unwish, q⟩) fun _ _ z => False.elim z
theorem PSs.nox {st : List Stmt} {t : TS} (h : PSs X.nox st t) : PSs X st t := fun pins s σ H D I hw =>
  wpAny_mono (h pins s σ H D (I.wish _) hw) (fun _ _ q => q.unwish) fun _ _ z => False.elim z
end
section
variable {X : Cx} {st : Stmt} {rest : List Stmt} {t u : TS} {e : Expr} {te : TE} {pos : Pos}
def tNext : TS := fun D σ H => D.nx σ H
def tSeq (t u : TS) : TS := fun D σ H => t { D with nx := u D } σ H
theorem pss_nil : PSs X [] tNext := fun _ _ σ H _ I h => wpAny_execs_nil ⟨σ, H, I, h⟩
theorem pss_cons (h1 : PS X st t) (h2 : PSs X rest u) : PSs X (st :: rest) (tSeq t u) := by
  intro pins s σ H D I h
  refine wpAny_execs_cons (thn (h1 pins s σ H { D with nx := u D } I h) fun f s1 q => ?_)
  cases f with
  | next =>
    obtain ⟨σ', H', I', q⟩ := q
    exact h2 pins s1 σ' H' D I' q
  | ret v => exact q
  | brk => exact q
  | cont => exact q
theorem pss_one (h1 : PS X st t) : PSs X [st] t := by
  intro pins s σ H D I h
  refine wpAny_execs_cons (thn (h1 pins s σ H D I h) fun f s1 q => ?_)
  cases f with
  | next => exact wpAny_execs_nil q
  | ret v => exact q
  | brk => exact q
  | cont => exact q
def tBreak : TS := fun D σ H => D.bk σ H
def tCont : TS := fun D σ H => D.ct σ H
theorem Inv.quiet {pins : List (Addr × Obj)} {σ : St} {H : Hp} {s : Shared} (I : Inv X pins σ H s) : interactive X.env = false := by simp [interactive, I.ok.kind]
def tDrop (te : TE) : TS := fun D σ H => te σ H fun _ H1 => D.nx σ H1
theorem ps_expr (he : PE X e te) (hs : swapsWith e none pos.line X.env = pure false := by rfl) : PS X (.Expr e pos) (tDrop te) := by
  intro pins s σ H D I h
  exact wpAny_Expr_any (thn (he pins s σ H _ I h) fun v s1 ⟨x, H1, I1, r1, q1⟩ => ⟨σ, H1, I1, q1⟩) I.quiet hs
def tRet (te : TE) : TS := fun D σ H => te σ H D.rt
theorem ps_ret (he : PE X e te) : PS X (.Return (some e) pos) (tRet te) := by
  intro pins s σ H D I h
  exact wpAny_Return_some (thn (he pins s σ H _ I h) fun v s1 ⟨x, H1, I1, r1, q1⟩ => ⟨x, σ, H1, I1, r1, q1⟩)
def tRetN : TS := fun D _ H => D.rt .non H
def tIfS (c : TT) (t u : TS) : TS := fun D σ H => c σ H fun b H1 => if b = true then t D σ H1 else u D σ H1
theorem ps_if {c : Expr} {a b : List Stmt} {tc : TT} (hc : PT X c tc) (ha : PSs X a t) (hb : PSs X b u) : PS X (.If c a b pos) (tIfS tc t u) := by
  intro pins s σ H D I h
  refine wpAny_If (thn (hc pins s σ H _ I h) fun d s1 ⟨H1, I1, q1⟩ => ?_)
  cases d with
  | true => exact ha pins s1 σ H1 D I1 q1
  | false => exact hb pins s1 σ H1 D I1 q1
def tNever : TS := fun _ _ _ => False
end
abbrev TG := V → St → Hp → (St → Hp → Prop) → Prop
abbrev TGs := List V → St → Hp → (St → Hp → Prop) → Prop
def PG (X : Cx) (target : Expr) (t : TG) : Prop :=
  ∀ (pins : List (Addr × Obj)) (s : Shared) (σ : St) (H : Hp) (v : V) (u : Value) (Q : St → Hp → Prop), Inv X pins σ H s → RelV v u → t v σ H Q →
    wpAny (model X.prog X.w) X.A (assign target X.env u) (fun _ s' => ∃ σ' H', Inv X pins σ' H' s' ∧ Q σ' H') X.xe s
def PGs (X : Cx) (ts : List Expr) (t : TGs) : Prop :=
  ∀ (pins : List (Addr × Obj)) (s : Shared) (σ : St) (H : Hp) (vs : List V) (us : List Value) (Q : St → Hp → Prop), Inv X pins σ H s → Vals vs us → t vs σ H Q →
    wpAny (model X.prog X.w) X.A (assignInOrder ((assignEach ts X.env).map (·.2)) us) (fun _ s' => ∃ σ' H', Inv X pins σ' H' s' ∧ Q σ' H') X.xe s
abbrev TSet := V → V → V → Hp → (Hp → Prop) → Prop
def PSet (X : Cx) (t : TSet) : Prop :=
  ∀ (pins : List (Addr × Obj)) (s : Shared) (σ : St) (H : Hp) (o i v : V) (ov iv u : Value) (Q : Hp → Prop), Inv X pins σ H s → RelV o ov → RelV i iv → RelV v u → t o i v H Q →
    wpAny (model X.prog X.w) X.A (setItem ov iv u) (fun _ s' => ∃ H', Inv X pins σ H' s' ∧ Q H') X.xe s
abbrev TIp := V → V → Hp → VK → Prop
def PIp (X : Cx) (op : Operator) (t : TIp) : Prop :=
  ∀ (pins : List (Addr × Obj)) (s : Shared) (σ : St) (H : Hp) (x y : V) (v u : Value) (Q : VK), Inv X pins σ H s → RelV x v → RelV y u → t x y H Q →
    wpAny (model X.prog X.w) X.A (inplaceOp op v u) (EP X pins σ Q) X.xe s
section
variable {X : Cx} {pos : Pos}
def gName (i : Nat) : TG := fun v σ H Q => Q (σ.set i (some v)) H
theorem pg_name {i : Nat} {x : Str} (hN : X.N.Nodup) (hi : X.N[i]? = some x) (hx : Loc X.env.scope x) (hf : X.fn x = true ∨ X.env.scope.names.lookup x = some .local := by first | exact .inl rfl | exact .inr rfl | assumption) : PG X (.Name x pos) (gName i) := by
  intro pins s σ H v u Q I r h
  exact wpAny_assign_Name (store_ok I hN hi hx r (fun s' I' => ⟨_, H, I', h⟩) hf)
def gNil : TGs := fun vs σ H Q => vs = [] ∧ Q σ H
def gCons (t : TG) (u : TGs) : TGs := fun vs σ H Q => ∃ v r, vs = v :: r ∧ t v σ H fun σ' H' => u r σ' H' Q
theorem pgs_nil : PGs X [] gNil := by
  intro pins s σ H vs us Q I r h
  obtain ⟨e, h⟩ := h
  subst e
  cases r
  exact assignInOrder_nil ⟨σ, H, I, h⟩
theorem pgs_cons {e : Expr} {es : List Expr} {t : TG} {u : TGs} (h1 : PG X e t) (h2 : PGs X es u)
    (hs : (assignEach (e :: es) X.env).map (·.2) = assign e X.env :: (assignEach es X.env).map (·.2) := by rfl) : PGs X (e :: es) (gCons t u) := by
  intro pins s σ H vs us Q I r h
  obtain ⟨v, vr, e1, h⟩ := h
  subst e1
  cases r with
  | cons r rr =>
    rw [hs]
    refine assignInOrder_cons (thn (h1 pins s σ H _ _ _ I r h) fun _ s1 ⟨σ1, H1, I1, q1⟩ => ?_)
    exact h2 pins s1 σ1 H1 _ _ Q I1 rr q1
def gTup (K : PySem.W.Frag) (n : Nat) (t : TGs) : TG := fun v σ H Q => ∃ a xs, v = .ref a ∧ SqT K H a xs ∧ xs.length = n ∧ t xs σ H Q
theorem pg_tup {es : List Expr} {k : Nat} {t : TGs} {n : Nat} (hc : X.calm = true) (h : PGs X es t)
    (hn : (assignEach es X.env).length = n := by rfl) (hst : (assignEach es X.env).findIdx? (·.1) = none := by rfl) : PG X (.Tuple es k pos) (gTup X.K n t) := by
  intro pins s σ H v u Q I r hw
  obtain ⟨a, xs, e1, hq, hl, hw⟩ := hw
  subst e1
  cases r
  obtain ⟨its, rv, ht, hz⟩ := I.tuple hq
  refine assign_Tuple_tuple (I.ok.hd hc) ht (by simp [hn, ← hl, rv.length]) hst fun h' hx => ?_
  have I1 : Inv X pins σ H { s with heap := h' } := I.kept (t' := s.toks) fun b o e => hx b o (Nat.ne_of_lt (Heap.lt_size e)) e
  exact h pins _ σ H xs _ Q I1 (by simpa using rv) hw
def gSub (to ti : TE) (t : TSet) : TG := fun v σ H Q => to σ H fun o H1 => ti σ H1 fun i H2 => t o i v H2 fun H3 => Q σ H3
theorem pg_sub {o i : Expr} {to ti : TE} {t : TSet} (ho : PE X o to) (hi : PE X i ti) (hs : PSet X t)
    (ha : ∀ v, assign (.Subscript o i pos) X.env v = (do
      let ov ← holding [v] (eval o X.env)
      let iv ← holding [v, ov] (eval i X.env)
      standAt pos
      holding [v, ov, iv] (setItem ov iv v)
      release [v, ov, iv] []) := by intro _; rfl) : PG X (.Subscript o i pos) (gSub to ti t) := by
  intro pins s σ H v u Q I r h
  rw [ha]
  refine wpAny_bind (wpAny_holding (thn (ho pins s σ H _ I h) fun ov s1 ⟨x, H1, I1, r1, q1⟩ => ?_))
  refine wpAny_bind (wpAny_holding (thn (hi pins s1 σ H1 _ I1 q1) fun iv s2 ⟨y, H2, I2, r2, q2⟩ => ?_))
  refine wpAny_bind (wpAny_standAt (wpAny_bind (wpAny_holding (thn (hs pins s2 σ H2 x y v ov iv u _ I2 r1 r2 r q2) fun _ s3 ⟨H3, I3, q3⟩ => ?_))))
  exact wpAny_release ⟨σ, H3, I3, q3⟩
def tAsg (te : TE) (g : TG) : TS := fun D σ H => te σ H fun x H1 => g x σ H1 D.nx
theorem ps_asg {tg e : Expr} {te : TE} {g : TG} (he : PE X e te) (hg : PG X tg g) (hs : swapsWithSole [tg] e pos.line X.env = pure false := by rfl) (hw : swappedStores [tg] e X.env = pure none := by rfl)
    (h1 : (assignEach [tg] X.env).map (·.2) = [assign tg X.env] := by rfl) : PS X (.Assign [tg] e pos) (tAsg te g) := by
  intro pins s σ H D I h
  refine wpAny_Assign_stores (thn (he pins s σ H _ I h) fun v s1 ⟨x, H1, I1, r1, q1⟩ => ?_) hs hw
  rw [h1]
  exact thn (hg pins s1 σ H1 x v _ I1 r1 q1) fun _ s2 q => q
theorem ps_set {i : Nat} {x : Str} {e : Expr} {te : TE} {pos' : Pos} (hN : X.N.Nodup) (hi : X.N[i]? = some x) (hx : Loc X.env.scope x) (he : PE X e te) (hs : swapsWith e (some (.Name x pos')) pos.line X.env = pure false := by rfl) (hf : X.fn x = true ∨ X.env.scope.names.lookup x = some .local := by first | exact .inl rfl | exact .inr rfl | assumption) :
    PS X (.Assign [.Name x pos'] e pos) (tAsg te (gName i)) := by
  intro pins s σ H D I h
  refine wpAny_Assign_Name (thn (he pins s σ H _ I h) fun v s1 ⟨y, H1, I1, r1, q1⟩ => ?_) hs
  exact store_ok I1 hN hi hx r1 (fun s2 I2 => ⟨_, H1, I2, q1⟩) hf
def tPar (i j : Nat) (ta : TA) : TS := fun D σ H => ta σ H fun vs H1 => ∃ v w, vs = [v, w] ∧ D.nx ((σ.set i (some v)).set j (some w)) H1
theorem ps_par {i j : Nat} {x y : Str} {a b : Expr} {ta : TA} {px py pt : Pos} {kt k2 pt2} (hc : X.calm = true) (hN : X.N.Nodup) (hi : X.N[i]? = some x) (hj : X.N[j]? = some y) (hij : i ≠ j)
    (hx : X.env.scope.names.lookup x = some .local) (hy : X.env.scope.names.lookup y = some .local) (ha : PA X [a, b] ta)
    (hw : swappedStores [.Tuple [.Name x px, .Name y py] kt pt] (.Tuple [a, b] k2 pt2) X.env = pure (some [x, y]))
    (hs : swapsWithSole [.Tuple [.Name x px, .Name y py] kt pt] (.Tuple [a, b] k2 pt2) pos.line X.env = pure false := by rfl) :
    PS X (.Assign [.Tuple [.Name x px, .Name y py] kt pt] (.Tuple [a, b] k2 pt2) pos) (tPar i j ta) := by
  intro pins s σ H D I h
  rw [exec_Assign_arm]
  refine wpAny_bind (wpAny_standAt ?_)
  rw [hs]
  refine wpAny_bind (wpAny_pure ?_)
  rw [if_neg (by decide)]
  refine wpAny_bind (Tuple_ (thn (ha _ pins s σ H _ I h) fun us s1 ⟨vs, H1, I1, r1, q1⟩ => ?_))
  obtain ⟨v, w, e1, q1⟩ := q1
  subst e1
  obtain ⟨u1, u2, rfl, rv, rw'⟩ : ∃ u1 u2, us = [u1, u2] ∧ RelV v u1 ∧ RelV w u2 := by
    cases r1 with
    | cons p q =>
      cases q with
      | cons p' q' =>
        cases q'
        exact ⟨_, _, rfl, p, p'⟩
  refine wpAny_newObj_type ?_ (by show 2 ≤ sizeLine; decide)
  have I2 : Inv X pins σ H1 { s1 with heap := s1.heap.push { cls := .type "tuple", data := .seq [u1, u2].toArray } } := I1.kept (t' := s1.toks) fun b o e => Heap.get?_push_of_some _ e
  rw [hw]
  refine wpAny_bind (wpAny_pure ?_)
  show wpAny (model X.prog X.w) X.A (do rule "assign.swapped-stores"; let items ← unpackItems (.ref s1.heap.objs.size) 2 none; assignInOrder [fun v => bindName X.env y v, fun v => bindName X.env x v] items.reverse; pure Flow.next) _ _ _
  refine wpAny_bind (wpAny_rule (wpAny_bind (unpackItems_tuple (items := #[u1, u2]) (I.ok.hd hc) (IsTup.new s1.heap _) fun h' hx' => ?_)))
  have I3 := I2.kept (h' := h') (t' := s1.toks) fun b o e => hx' b o (Nat.ne_of_lt (Heap.lt_size e)) e
  show wpAny _ _ (assignInOrder [fun v => bindName X.env y v, fun v => bindName X.env x v] [u2, u1] >>= fun _ => pure Flow.next) _ _ _
  refine wpAny_bind (assignInOrder_cons (wpAny_bindName (store_ok I3 hN hj (.inl hy) rw' (fun s2 I4 => ?_) (.inr hy))))
  refine assignInOrder_cons (wpAny_bindName (store_ok I4 hN hi (.inl hx) rv (fun s3 I5 => assignInOrder_nil (wpAny_pure ?_)) (.inr hx)))
  rw [List.set_comm _ _ (Ne.symm hij)] at I5
  exact ⟨_, H1, I5, q1⟩
def tAug (i : Nat) (te : TE) (ti : TIp) : TS := fun D σ H => ∃ x, σ[i]? = some (some x) ∧ te σ H fun y H1 => ti x y H1 fun z H2 => D.nx (σ.set i (some z)) H2
def tAugS (to ti te : TE) (tget : V → V → Hp → VK → Prop) (tip : TIp) (tset : TSet) : TS := fun D σ H => to σ H fun o H1 => ti σ H1 fun i H2 => tget o i H2 fun x H3 => te σ H3 fun y H4 => tip x y H4 fun z H5 => tset o i z H5 fun H6 => D.nx σ H6
def PGet (X : Cx) (t : V → V → Hp → VK → Prop) : Prop :=
  ∀ (pins : List (Addr × Obj)) (s : Shared) (σ : St) (H : Hp) (o i : V) (ov iv : Value) (Q : VK), Inv X pins σ H s → RelV o ov → RelV i iv → t o i H Q →
    wpAny (model X.prog X.w) X.A (getItem ov iv) (EP X pins σ Q) X.xe s
def ipI (f : Int → Int → Int) : TIp := fun x y H Q => ∃ i j, x = .int i ∧ y = .int j ∧ Q (.int (f i j)) H
end
section
variable {X : Cx} {pos : Pos}
def tWhile (c : TT) (tb : TS) : TS := fun D σ H => ∃ W : Nat → St → Hp → Prop, (∃ m, W m σ H) ∧ ∀ m σ H, W m σ H →
  c σ H fun b H1 => if b = true then ∃ N : St → Hp → Prop, (∀ σ' H', N σ' H' → ∃ m', m' < m ∧ W m' σ' H') ∧ tb { D with nx := N, ct := N, bk := D.nx } σ H1 else D.nx σ H1
theorem ps_while {c : Expr} {body : List Stmt} {tc : TT} {tb : TS} (hp : PassesOwn (model X.prog X.w) X.A X.env X.xe) (hc : PT X c tc) (hb : PSs X body tb) : PS X (.While c body [] pos) (tWhile tc tb) := by
  intro pins s σ H D I h
  obtain ⟨W, ⟨m0, w0⟩, turn⟩ := h
  refine wpAny_While (codeAny_whileLoop (fun n s' => ∃ σ' H', Inv X pins σ' H' s' ∧ W n σ' H') ?_ m0 ⟨σ, H, I, w0⟩)
  rintro n s1 ⟨σ1, H1, I1, w1⟩
  refine wpAny_passesOwn hp (thn (hc pins s1 σ1 H1 _ I1 (turn n σ1 H1 w1)) fun b s2 ⟨H2, I2, q2⟩ => ?_)
  cases b with
  | true =>
    obtain ⟨N, hN, q2⟩ := q2
    rw [if_pos rfl]
    refine wpAny_passesOwn hp (thn (hb pins s2 σ1 H2 _ I2 q2) fun f s3 q3 => ?_)
    cases f with
    | next =>
      obtain ⟨σ3, H3, I3, n3⟩ := q3
      obtain ⟨m', hm, w3⟩ := hN σ3 H3 n3
      exact ⟨m', hm, σ3, H3, I3, w3⟩
    | cont =>
      obtain ⟨σ3, H3, I3, n3⟩ := q3
      obtain ⟨m', hm, w3⟩ := hN σ3 H3 n3
      exact ⟨m', hm, σ3, H3, I3, w3⟩
    | brk => exact q3
    | ret v => exact q3
  | false =>
    rw [if_neg Bool.false_ne_true]
    exact wpAny_execs_nil ⟨σ1, H2, I2, q2⟩
end
structure It where
  go : Nat → Hp → Prop
  yld : Nat → Hp → V → Hp → Prop
  stop : Nat → Hp → Prop
def FpOk (X : Cx) (pins : List (Addr × Obj)) (H : Hp) (b : Addr) : Prop :=
  H b = none ∧ b ≠ X.env.locals ∧ b ∉ X.fs ∧ (b ∈ X.ex ∨ X.s₀.heap.objs.size ≤ b) ∧ (∀ x c, X.env.cells.lookup x = some c → c ≠ b) ∧ ∀ p ∈ X.pn ++ pins, p.1 ≠ b
theorem Inv.fpOk {X : Cx} {pins : List (Addr × Obj)} {σ : St} {H H' : Hp} {s : Shared} {b : Addr} (I : Inv X pins σ H s) (hb : s.heap.objs.size ≤ b) (hn : H' b = none) : FpOk X pins H' b := by
  refine ⟨hn, Nat.ne_of_gt (Nat.lt_of_lt_of_le I.lt hb), I.nofs hb, .inr (Nat.le_trans I.sz hb), fun x c e z => ?_, fun p hp z => ?_⟩
  · obtain ⟨v, q⟩ := I.cell x c e
    exact absurd (Nat.lt_of_lt_of_le q.lt (by rw [z]; exact hb)) (Nat.lt_irrefl _)
  · exact absurd (Nat.lt_of_lt_of_le (Heap.lt_size (I.pin p hp).1) (by rw [z]; exact hb)) (Nat.lt_irrefl _)
structure Turn (P : Program) (w : World) (K : PySem.W.Frag) (tg : Expr) (J : It) (fp : List Addr) (it : Addr) (tn : Nat → Heap → Prop) : Prop where
  mem : it ∈ fp
  obj : ∀ i h, tn i h → ∀ b ∈ fp, ∃ o, h.get? b = some o ∧ ∀ v, o.data ≠ .cell v
  keep : ∀ i h h', tn i h → (∀ b ∈ fp, ∀ o, h.get? b = some o → h'.get? b = some o) → tn i h'
  item : ∀ (X : Cx), X.prog = P → X.w = w → X.K = K → X.calm = true → ∀ (i : Nat) (pins : List (Addr × Obj)) (s : Shared) (σ : St) (H : Hp) (E : Value → Shared → Prop), Inv X pins σ H s → (∀ b ∈ fp, FpOk X pins H b) → tn i s.heap → J.go i H →
    wpAny (model P w) X.A (pyNext (.ref it)) (fun r s1 => ∃ u, r = some u ∧
      wpAny (model P w) X.A (letOwnedTupleGo tg (.ref it) u) (fun _ s2 => ∃ x H', Inv X pins σ H' s2 ∧ RelV x u ∧ J.yld i H x H' ∧ tn (i + 1) s2.heap ∧ ∀ b ∈ fp, H' b = none) E s1) E s
  done : ∀ (X : Cx), X.prog = P → X.w = w → X.K = K → X.calm = true → ∀ (i : Nat) (pins : List (Addr × Obj)) (s : Shared) (σ : St) (H : Hp) (E : Value → Shared → Prop), Inv X pins σ H s → (∀ b ∈ fp, FpOk X pins H b) → tn i s.heap → J.stop i H →
    wpAny (model P w) X.A (pyNext (.ref it)) (fun r s1 => r = none ∧ Inv X pins σ H s1) E s
  self : ∀ (A : Around) (i : Nat) (s : Shared) (Q : Value → Shared → Prop) (E : Value → Shared → Prop), tn i s.heap → Q (.ref it) s → wpAny (model P w) A (pyIter (.ref it)) Q E s
abbrev TI := St → Hp → (It → Hp → Prop) → Prop
def PIE (X : Cx) (pins : List (Addr × Obj)) (σ : St) (tg : Expr) (R : It → Hp → Prop) (itv : Value) (s2 : Shared) : Prop :=
  ∃ (it : Addr) (fp : List Addr) (tn : Nat → Heap → Prop) (J : It) (H' : Hp), itv = .ref it ∧ Inv X pins σ H' s2 ∧ Turn X.prog X.w X.K tg J fp it tn ∧ tn 0 s2.heap ∧ (∀ b ∈ fp, FpOk X pins H' b) ∧ R J H'
def PI (X : Cx) (tg iter : Expr) (wi : TI) : Prop :=
  ∀ (pins : List (Addr × Obj)) (s : Shared) (σ : St) (H : Hp) (R : It → Hp → Prop), Inv X pins σ H s → wi σ H R →
    wpAny (model X.prog X.w) X.A (eval iter X.env) (fun v s1 => wpAny (model X.prog X.w) X.A (pyIter v) (PIE X pins σ tg R) X.xe s1) X.xe s
theorem go_of {M : Model} {A : Around} {E : Value → Shared → Prop} {s : Shared} {tg : Expr} {it : Addr} {u : Value} {o : Obj} {n : String} {vs : Array Value} {Q : Unit → Shared → Prop} (ho : s.heap.get? it = some o) (hc : o.cls = .type n) (hd : o.data = .fields vs)
    (hn : ["enumerate", "zip", "dict_itemiterator", "dict_reverseitemiterator", "odict_iterator", "itertools.zip_longest", "itertools.pairwise"].contains n = false) (hQ : Q () s) : wpAny M A (letOwnedTupleGo tg (.ref it) u) Q E s := by
  unfold letOwnedTupleGo
  cases tg <;> first
    | exact wpAny_pure hQ
    | (cases u <;> first
        | exact wpAny_pure hQ
        | (refine wpAny_bind (wpAny_load ho ?_)
           rw [hc, hd]
           show wpAny M A (if (["enumerate", "zip", "dict_itemiterator", "dict_reverseitemiterator", "odict_iterator", "itertools.zip_longest", "itertools.pairwise"].contains n && vs[0]? == some (rawInt _)) = true then _ else _) Q E s
           rw [if_neg (by intro h; rw [hn, Bool.false_and] at h; cases h)]
           exact wpAny_pure hQ))
def Itl (K : PySem.W.Frag) (a : Addr) : It :=
  ⟨fun i H => ∃ xs x, SqL K H a xs ∧ xs[i]? = some x, fun i H x H' => H' = H ∧ ∀ xs, SqL K H a xs → xs[i]? = some x, fun i H => ∃ xs, SqL K H a xs ∧ xs.length ≤ i⟩
def Itt (K : PySem.W.Frag) (a : Addr) : It :=
  ⟨fun i H => ∃ xs x, SqT K H a xs ∧ xs[i]? = some x, fun i H x H' => H' = H ∧ ∀ xs, SqT K H a xs → xs[i]? = some x, fun i H => ∃ xs, SqT K H a xs ∧ xs.length ≤ i⟩
def Itr (lo : Int) (n : Nat) : It := ⟨fun i _ => i < n, fun i H x H' => H' = H ∧ x = .int (lo + i), fun i _ => n ≤ i⟩
theorem turn_list {P : Program} {w : World} {K : PySem.W.Frag} {tg : Expr} (a it : Addr) : Turn P w K tg (Itl K a) [it] it (fun i h => h.IsListIter it a i) where
  mem := by simp
  obj := fun i h st b hb => by
    have e : b = it := by simpa using hb
    subst e
    obtain ⟨o, e, c, d⟩ := st
    exact ⟨o, e, fun v z => by rw [d] at z; cases z⟩
  keep := fun i h h' st k => st.at fun o e => k it (by simp) o e
  item := by
    intro X hP hw hK hc i pins s σ H E I hf st hg
    subst hP hw hK
    obtain ⟨xs, x, hq, hx⟩ := hg
    obtain ⟨its, rv, p, hz⟩ := I.list hq
    obtain ⟨u, hu, ru⟩ := rv.get hx
    obtain ⟨f0, f1, f2, f3, f4, f5⟩ := hf it (by simp)
    refine wpAny_pyNext_list_item st p.isList (x := u) (by simpa using hu) fun h' st' sb => ?_
    have I1 : Inv X pins σ H { s with heap := h' } := I.turned (t' := s.toks) (fun b o hb e => (sb.2 b hb).trans e) f0 f1 f3 f4 f5
    obtain ⟨o, e, c, d⟩ := id st'
    exact ⟨u, rfl, go_of (s := { s with heap := h' }) e c d (by decide) ⟨x, H, I1, ru, ⟨rfl, fun ys hy => by rw [I.list_inj hy hq]; exact hx⟩, st', fun b hb => (hf b hb).1⟩⟩
  done := by
    intro X hP hw hK hc i pins s σ H E I hf st hg
    subst hP hw hK
    obtain ⟨xs, hq, hx⟩ := hg
    obtain ⟨its, rv, p, hz⟩ := I.list hq
    obtain ⟨f0, f1, f2, f3, f4, f5⟩ := hf it (by simp)
    have hl := rv.length
    exact wpAny_pyNext_list_end (I.ok.hd hc) st p.isList (by simp; omega) fun h' eb => ⟨rfl, I.turned (t' := s.toks) (fun b o hb e => eb b o hb e) f0 f1 f3 f4 f5⟩
  self := fun _ _ _ _ _ st h => wpAny_pyIter_listiter st h
theorem turn_tuple {P : Program} {w : World} {K : PySem.W.Frag} {tg : Expr} (a it : Addr) : Turn P w K tg (Itt K a) [it] it (fun i h => h.IsTupleIter it a i) where
  mem := by simp
  obj := fun i h st b hb => by
    have e : b = it := by simpa using hb
    subst e
    obtain ⟨o, e, c, d⟩ := st
    exact ⟨o, e, fun v z => by rw [d] at z; cases z⟩
  keep := fun i h h' st k => st.at fun o e => k it (by simp) o e
  item := by
    intro X hP hw hK hc i pins s σ H E I hf st hg
    subst hP hw hK
    obtain ⟨xs, x, hq, hx⟩ := hg
    obtain ⟨its, rv, p, hz⟩ := I.tuple hq
    obtain ⟨u, hu, ru⟩ := rv.get hx
    obtain ⟨f0, f1, f2, f3, f4, f5⟩ := hf it (by simp)
    refine wpAny_pyNext_tuple_item st (show s.heap.IsTuple a its.toArray from p) (x := u) (by simpa using hu) fun h' st' sb => ?_
    have I1 : Inv X pins σ H { s with heap := h' } := I.turned (t' := s.toks) (fun b o hb e => (sb.2 b hb).trans e) f0 f1 f3 f4 f5
    obtain ⟨o, e, c, d⟩ := id st'
    exact ⟨u, rfl, go_of (s := { s with heap := h' }) e c d (by decide) ⟨x, H, I1, ru, ⟨rfl, fun ys hy => by rw [I.tuple_inj hy hq]; exact hx⟩, st', fun b hb => (hf b hb).1⟩⟩
  done := by
    intro X hP hw hK hc i pins s σ H E I hf st hg
    subst hP hw hK
    obtain ⟨xs, hq, hx⟩ := hg
    obtain ⟨its, rv, p, hz⟩ := I.tuple hq
    obtain ⟨f0, f1, f2, f3, f4, f5⟩ := hf it (by simp)
    have hl := rv.length
    exact wpAny_pyNext_tuple_end (I.ok.hd hc) st (show s.heap.IsTuple a its.toArray from p) (by simp; omega) fun h' eb => ⟨rfl, I.turned (t' := s.toks) (fun b o hb e => eb b o hb e) f0 f1 f3 f4 f5⟩
  self := fun _ _ _ _ _ st h => wpAny_pyIter_tupleiter st h
theorem turn_range {P : Program} {w : World} {K : PySem.W.Frag} {tg : Expr} (it : Addr) (lo : Int) (n : Nat) : Turn P w K tg (Itr lo n) [it] it (fun i h => IsRangeIter h it (lo + (i : Nat) * 1) ((n : Int) - (i : Nat)) 1) where
  mem := by simp
  obj := fun i h st b hb => by
    have e : b = it := by simpa using hb
    subst e
    exact ⟨_, st, fun v z => by
      have z' : Data.fields _ = Data.cell v := z
      cases z'⟩
  keep := fun i h h' st k => k it (by simp) _ st
  item := by
    intro X hP hw hK hc i pins s σ H E I hf st hg
    subst hP hw hK
    obtain ⟨f0, f1, f2, f3, f4, f5⟩ := hf it (by simp)
    have W := Walks.range (prog := X.prog) (w := X.w) (I.ok.hd hc) it lo 1 n
    refine W.item i s _ _ hg st fun v h' tk hv st' kk => ?_
    obtain ⟨t, rfl⟩ := hv
    have I1 : Inv X pins σ H { s with heap := h', toks := tk } := I.turned (fun b o hb e => kk b o (by simpa using hb) e) f0 f1 f3 f4 f5
    refine ⟨_, rfl, go_of (s := { s with heap := h', toks := tk }) (n := "range_iterator") st' rfl rfl (by decide) ⟨.int (lo + i), H, I1, ⟨t, ?_⟩, ⟨rfl, rfl⟩, st', fun b hb => (hf b hb).1⟩⟩
    rw [Int.mul_one]
  done := by
    intro X hP hw hK hc i pins s σ H E I hf st hg
    subst hP hw hK
    obtain ⟨f0, f1, f2, f3, f4, f5⟩ := hf it (by simp)
    exact wpAny_pyNext_range_end (I.ok.hd hc) st (by have : n ≤ i := hg; omega) fun h' eb => ⟨rfl, I.turned (t' := s.toks) (fun b o hb e => eb b o hb e) f0 f1 f3 f4 f5⟩
  self := fun _ _ _ _ _ st h => wpAny_pyIter_rangeiter st h
end L2
namespace L2
open PySem PySem.Spec PyProof.Rows
section
variable {X : Cx} {tg : Expr}
def iList (K : PySem.W.Frag) (tl : TE) : TI := fun σ H R => tl σ H fun x H1 => ∃ a, x = .ref a ∧ (∃ xs, SqL K H1 a xs) ∧ R (Itl K a) H1
def iTup (K : PySem.W.Frag) (tl : TE) : TI := fun σ H R => tl σ H fun x H1 => ∃ a, x = .ref a ∧ (∃ xs, SqT K H1 a xs) ∧ R (Itt K a) H1
theorem pi_list {l : Expr} {tl : TE} (hl : PE X l tl) : PI X tg l (iList X.K tl) := by
  intro pins s σ H R I h
  refine thn (hl pins s σ H _ I h) fun v s1 ⟨x, H1, I1, r1, q1⟩ => ?_
  obtain ⟨a, e, ⟨xs, hq⟩, q⟩ := q1
  subst e
  cases r1
  obtain ⟨its, rv, p, hz⟩ := I1.list hq
  refine wpAny_pyIter_list p.isList ?_
  refine ⟨s1.heap.objs.size, [s1.heap.objs.size], _, _, H1, rfl, I1.kept (t' := s1.toks) fun b o e => Heap.get?_push_of_some _ e, turn_list a _, ⟨_, Heap.get?_push_size _ rfl, rfl, rfl⟩, fun b hb => ?_, q⟩
  have e : b = s1.heap.objs.size := by simpa using hb
  subst e
  exact I1.fpOk (Nat.le_refl _) (I1.hok.fresh (Nat.le_refl _))
theorem pi_tup {l : Expr} {tl : TE} (hl : PE X l tl) : PI X tg l (iTup X.K tl) := by
  intro pins s σ H R I h
  refine thn (hl pins s σ H _ I h) fun v s1 ⟨x, H1, I1, r1, q1⟩ => ?_
  obtain ⟨a, e, ⟨xs, hq⟩, q⟩ := q1
  subst e
  cases r1
  obtain ⟨its, rv, p, hz⟩ := I1.tuple hq
  refine wpAny_pyIter_tuple (show s1.heap.IsTuple a its.toArray from p) ?_
  refine ⟨s1.heap.objs.size, [s1.heap.objs.size], _, _, H1, rfl, I1.kept (t' := s1.toks) fun b o e => Heap.get?_push_of_some _ e, turn_tuple a _, ⟨_, Heap.get?_push_size _ rfl, rfl, rfl⟩, fun b hb => ?_, q⟩
  have e : b = s1.heap.objs.size := by simpa using hb
  subst e
  exact I1.fpOk (Nat.le_refl _) (I1.hok.fresh (Nat.le_refl _))
theorem range_it {pins : List (Addr × Obj)} {σ : St} {H : Hp} {s : Shared} {R : It → Hp → Prop} {E : Value → Shared → Prop} {lo hi : Int} {t u v : Tok} {tk : Nat} (I : Inv X pins σ H s) (h1 : -(2 ^ 62) ≤ lo) (h2 : lo < 2 ^ 62) (h3 : -(2 ^ 62) ≤ hi) (h4 : hi < 2 ^ 62)
    (q : R (Itr lo (hi - lo).toNat) H) : wpAny (model X.prog X.w) X.A (pyIter (.ref s.heap.objs.size)) (PIE X pins σ tg R) E { s with heap := s.heap.push { cls := .type "range", data := .fields #[.int lo t, .int hi u, .int 1 v] }, toks := tk } := by
  refine wpAny_pyIter_range (IsRange.new ..) (small_one h1 h2 h3 h4) ?_
  have I1 : Inv X pins σ H { s with heap := s.heap.push { cls := .type "range", data := .fields #[.int lo t, .int hi u, .int 1 v] }, toks := tk } := I.kept fun b o e => Heap.get?_push_of_some _ e
  refine ⟨(s.heap.push { cls := .type "range", data := .fields #[.int lo t, .int hi u, .int 1 v] }).objs.size, [(s.heap.push { cls := .type "range", data := .fields #[.int lo t, .int hi u, .int 1 v] }).objs.size], _, _, H, rfl,
    I1.kept (t' := tk) fun b o e => Heap.get?_push_of_some _ e, turn_range _ lo (hi - lo).toNat, ?_, fun b hb => ?_, q⟩
  · have e1 : lo + ((0 : Nat) : Int) * 1 = lo := by simp
    have e2 : (((hi - lo).toNat : Nat) : Int) - ((0 : Nat) : Int) = Builtin.Range.rangeSize lo hi 1 := by rw [rangeSize_one]; split <;> omega
    show IsRangeIter _ _ (lo + ((0 : Nat) : Int) * 1) ((((hi - lo).toNat : Nat) : Int) - ((0 : Nat) : Int)) 1
    rw [e1, e2]
    exact Heap.get?_push_size _ rfl
  · have e : b = (s.heap.push { cls := .type "range", data := .fields #[.int lo t, .int hi u, .int 1 v] }).objs.size := by simpa using hb
    subst e
    exact I1.fpOk (Nat.le_refl _) (I1.hok.fresh (Nat.le_refl _))
def iRng1 (ta : TA) : TI := fun σ H R => ta σ H fun vs H1 => ∃ j : Int, vs = [.int j] ∧ -(2 ^ 62) ≤ j ∧ j < 2 ^ 62 ∧ R (Itr 0 j.toNat) H1
def iRng2 (ta : TA) : TI := fun σ H R => ta σ H fun vs H1 => ∃ i j : Int, vs = [.int i, .int j] ∧ (-(2 ^ 62) ≤ i ∧ i < 2 ^ 62 ∧ -(2 ^ 62) ≤ j ∧ j < 2 ^ 62) ∧ R (Itr i (j - i).toNat) H1
theorem pi_range1 {a : Expr} {ta : TA} {p pos : Pos} (hg : Gl X "range") (hm : X.mg "range" = none) (ha : PA X [a] ta) (hs : starEach [a] X.env = [(false, eval a X.env)] := by rfl) : PI X tg (.Call (.Name "range" p) [a] [] pos) (iRng1 ta) := by
  intro pins s σ H R I h
  refine Call_ (ld_blt I hg hm boot_range (PyProof.Rows.callWith_type1 (thn (ha pos pins s σ H _ I h) fun us s1 ⟨vs, H1, I1, r1, q1⟩ => ?_) hs rfl))
  obtain ⟨j, e, q1, q2, q⟩ := q1
  subst e
  cases r1 with
  | cons r rr =>
    cases rr
    obtain ⟨t, rfl⟩ := r
    exact call_range_1 (range_it I1 (by omega) (by omega) q1 q2 (by simpa using q))
theorem pi_range2 {a b : Expr} {ta : TA} {p pos : Pos} (hg : Gl X "range") (hm : X.mg "range" = none) (ha : PA X [a, b] ta) (hs : starEach [a, b] X.env = [(false, eval a X.env), (false, eval b X.env)] := by rfl) (hs2 : starEach [b] X.env = [(false, eval b X.env)] := by rfl) :
    PI X tg (.Call (.Name "range" p) [a, b] [] pos) (iRng2 ta) := by
  intro pins s σ H R I h
  refine Call_ (ld_blt I hg hm boot_range (PyProof.Rows.callWith_type1 (thn (ha pos pins s σ H _ I h) fun us s1 ⟨vs, H1, I1, r1, q1⟩ => ?_) (by rw [hs, hs2]) (by rw [hs2]; rfl)))
  obtain ⟨i, j, e, ⟨q1, q2, q3, q4⟩, q⟩ := q1
  subst e
  cases r1 with
  | cons r rr =>
    cases rr with
    | cons r' rr =>
      cases rr
      obtain ⟨t, rfl⟩ := r
      obtain ⟨t', rfl⟩ := r'
      exact call_range_2 (range_it I1 q1 q2 q3 q4 q)
def tFor (wi : TI) (g : TG) (tb : TS) : TS := fun D σ H => wi σ H fun J H1 => ∃ W : Nat → Nat → St → Hp → Prop, (∃ m, W 0 m σ H1) ∧ ∀ i m σ H, W i m σ H →
  (J.stop i H ∧ D.nx σ H) ∨ (J.go i H ∧ ∃ N : St → Hp → Prop, (∀ σ' H', N σ' H' → ∃ m', m' < m ∧ W (i + 1) m' σ' H') ∧ ∀ x H', J.yld i H x H' → g x σ H' fun σ2 H2 => tb { D with nx := N, ct := N, bk := D.nx } σ2 H2)
def pinsAt (fp : List Addr) (h : Heap) : List (Addr × Obj) := fp.filterMap fun b => (h.get? b).map fun o => (b, o)
theorem mem_pinsAt {fp : List Addr} {h : Heap} {b : Addr} {o : Obj} (hb : b ∈ fp) (e : h.get? b = some o) : (b, o) ∈ pinsAt fp h := List.mem_filterMap.mpr ⟨b, hb, by rw [e]; rfl⟩
theorem of_pinsAt {fp : List Addr} {h : Heap} {p : Addr × Obj} (hp : p ∈ pinsAt fp h) : p.1 ∈ fp ∧ h.get? p.1 = some p.2 := by
  obtain ⟨b, hb, e⟩ := List.mem_filterMap.mp hp
  cases q : h.get? b with
  | none => rw [q] at e; cases e
  | some o =>
    rw [q] at e
    have e' : (b, o) = p := Option.some.inj e
    subst e'
    exact ⟨hb, q⟩
theorem Inv.pinned {pins : List (Addr × Obj)} {σ : St} {H : Hp} {s : Shared} {fp : List Addr} (I : Inv X pins σ H s) (hf : ∀ b ∈ fp, FpOk X pins H b) (ho : ∀ b ∈ fp, ∃ o, s.heap.get? b = some o ∧ ∀ v, o.data ≠ .cell v) : Inv X (pins ++ pinsAt fp s.heap) σ H s :=
  I.pins_of fun p hp => (List.mem_append.mp hp).elim (fun z => I.pin p (List.mem_append_right _ z)) fun z => by
    obtain ⟨hb, e⟩ := of_pinsAt z
    obtain ⟨f0, f1, f2, _⟩ := hf p.1 hb
    obtain ⟨o, e', d⟩ := ho p.1 hb
    rw [e] at e'; cases e'
    exact ⟨e, f0, f1, f2, d⟩
theorem Inv.unpinned {pins pl : List (Addr × Obj)} {σ : St} {H : Hp} {s : Shared} (I : Inv X (pins ++ pl) σ H s) : Inv X pins σ H s := I.pins_of fun p hp => I.pin p (List.mem_append_right _ (List.mem_append_left _ hp))
theorem ps_for {iter : Expr} {body : List Stmt} {wi : TI} {g : TG} {tb : TS} {pos : Pos} (hp : PassesOwn (model X.prog X.w) X.A X.env X.xe) (hc : X.calm = true) (hi : PI X tg iter wi) (hg : PG X tg g) (hb : PSs X body tb)
    (hs : ∀ x, foldedSetIterable iter X.env x = pure x := by intro _; rfl) : PS X (.For tg iter body [] pos) (tFor wi g tb) := by
  intro pins s σ H D I h
  refine wpAny_For (thn (hi pins s σ H _ I h) fun v s1 h1 => thn h1 fun itv s2 h2 => ?_) hs
  obtain ⟨it, fp, tn, J, H2, e, I2, T, st2, f2, W, ⟨m0, w0⟩, turn⟩ := h2
  subst e
  have stat : ∀ {H' : Hp}, (∀ b ∈ fp, H' b = none) → ∀ b ∈ fp, FpOk X pins H' b := fun hn b hb => ⟨hn b hb, (f2 b hb).2⟩
  refine codeAny_forLoop_any (fun n s' => ∃ i σ' H', Inv X pins σ' H' s' ∧ tn i s'.heap ∧ (∀ b ∈ fp, H' b = none) ∧ W i n σ' H') ?_ m0 ⟨0, σ, H2, I2, st2, fun b hb => (f2 b hb).1, w0⟩
  rintro n s3 ⟨i, σ3, H3, I3, st3, fr3, w3⟩
  rcases turn i n σ3 H3 w3 with ⟨stop, qn⟩ | ⟨go, N, hN, step⟩
  · refine wpAny_passesOwn hp (thn (T.done X rfl rfl rfl hc i pins s3 σ3 H3 X.xe I3 (stat fr3) st3 stop) fun r s4 ⟨hr, I4⟩ => ?_)
    subst hr
    exact wpAny_execs_nil ⟨σ3, H3, I4, qn⟩
  · refine wpAny_passesOwn hp (thn (T.item X rfl rfl rfl hc i pins s3 σ3 H3 X.xe I3 (stat fr3) st3 go) fun r s4 ⟨u, hr, h4⟩ => ?_)
    subst hr
    refine wpAny_passesOwn hp (thn h4 fun _ s5 ⟨x, H5, I5, r5, y5, st5, fr5⟩ => ?_)
    have I5' := I5.pinned (stat fr5) (T.obj _ _ st5)
    refine wpAny_passesOwn hp (thn (hg _ s5 σ3 H5 x u _ I5' r5 (step x H5 y5)) fun _ s6 ⟨σ6, H6, I6, q6⟩ => ?_)
    refine wpAny_passesOwn hp (thn (hb _ s6 σ6 H6 _ I6 q6) fun f s7 q7 => ?_)
    have again : ∀ {σ7 : St} {H7 : Hp}, Inv X (pins ++ pinsAt fp s5.heap) σ7 H7 s7 → N σ7 H7 → ∃ m, m < n ∧ ∃ i σ' H', Inv X pins σ' H' s7 ∧ tn i s7.heap ∧ (∀ b ∈ fp, H' b = none) ∧ W i m σ' H' := fun {σ7 H7} I7 n7 => by
      obtain ⟨m', hm, w7⟩ := hN σ7 H7 n7
      refine ⟨m', hm, i + 1, σ7, H7, I7.unpinned, T.keep _ _ _ st5 fun b hb o e => (I7.pin (b, o) (List.mem_append_right _ (List.mem_append_right _ (mem_pinsAt hb e)))).1, fun b hb => ?_, w7⟩
      obtain ⟨o, e, d⟩ := T.obj _ _ st5 b hb
      exact (I7.pin (b, o) (List.mem_append_right _ (List.mem_append_right _ (mem_pinsAt hb e)))).2.1
    cases f with
    | next => obtain ⟨σ7, H7, I7, n7⟩ := q7; exact again I7 n7
    | cont => obtain ⟨σ7, H7, I7, n7⟩ := q7; exact again I7 n7
    | brk => obtain ⟨σ7, H7, I7, q7⟩ := q7; exact ⟨σ7, H7, I7.unpinned, q7⟩
    | ret v => obtain ⟨x7, σ7, H7, I7, r7, q7⟩ := q7; exact ⟨x7, σ7, H7, I7.unpinned, r7, q7⟩
end
end L2
namespace L2
open PySem PySem.Spec PyProof.Rows
abbrev R2 := V → V → Hp → VK → Prop
def OpR (X : Cx) (f : Value → Value → Sem Value) (r : R2) : Prop :=
  ∀ (pins : List (Addr × Obj)) (s : Shared) (σ : St) (H : Hp) (x y : V) (v u : Value) (Q : VK), Inv X pins σ H s → RelV x v → RelV y u → r x y H Q →
    wpAny (model X.prog X.w) X.A (f v u) (EP X pins σ Q) X.xe s
def UnR (X : Cx) (f : Value → Sem Value) (r : V → Hp → VK → Prop) : Prop :=
  ∀ (pins : List (Addr × Obj)) (s : Shared) (σ : St) (H : Hp) (x : V) (v : Value) (Q : VK), Inv X pins σ H s → RelV x v → r x H Q →
    wpAny (model X.prog X.w) X.A (f v) (EP X pins σ Q) X.xe s
def CallR (X : Cx) (f : Value) (r : List V → Hp → VK → Prop) : Prop :=
  ∀ (pins : List (Addr × Obj)) (s : Shared) (σ : St) (H : Hp) (xs : List V) (us : List Value) (Q : VK), Inv X pins σ H s → Vals xs us → r xs H Q →
    wpAny (model X.prog X.w) X.A (call f us) (EP X pins σ Q) X.xe s
def TruR (X : Cx) (r : V → Hp → (Bool → Hp → Prop) → Prop) : Prop :=
  ∀ (pins : List (Addr × Obj)) (s : Shared) (σ : St) (H : Hp) (x : V) (v : Value) (Q : Bool → Hp → Prop), Inv X pins σ H s → RelV x v → r x H Q →
    wpAny (model X.prog X.w) X.A (truthy v) (TP X pins σ Q) X.xe s
def tOp (r : R2) (ta tb : TE) : TE := fun σ H Q => ta σ H fun x H1 => tb σ H1 fun y H2 => r x y H2 Q
def tUn (r : V → Hp → VK → Prop) (ta : TE) : TE := fun σ H Q => ta σ H fun x H1 => r x H1 Q
def rI (C : Int → Int → Prop) (g : Int → Int → V) : R2 := fun x y H Q => ∃ i j, x = .int i ∧ y = .int j ∧ C i j ∧ Q (g i j) H
def rI0 (g : Int → Int → V) : R2 := fun x y H Q => ∃ i j, x = .int i ∧ y = .int j ∧ Q (g i j) H
def rU (g : Int → V) : V → Hp → VK → Prop := fun x H Q => ∃ i, x = .int i ∧ Q (g i) H
section
variable {X : Cx} {a b c : Expr} {ta tb tc : TE} {pos : Pos}
theorem binT (ha : PE X a ta) (hb : PE X b tb) {pins : List (Addr × Obj)} {s : Shared} {σ : St} {H : Hp} {R : V → V → Hp → Prop} (I : Inv X pins σ H s)
    (h : ta σ H fun x H1 => tb σ H1 fun y H2 => R x y H2) {Q : Value → Shared → Prop} {f : Value → Value → Sem Value}
    (hf : ∀ v u s2 x y H2, Inv X pins σ H2 s2 → RelV x v → RelV y u → R x y H2 → wpAny (model X.prog X.w) X.A (f v u) Q X.xe s2) :
    wpAny (model X.prog X.w) X.A (eval a X.env) (fun v s₁ => wpAny (model X.prog X.w) X.A (eval b X.env) (fun u s₂ => wpAny (model X.prog X.w) X.A (f v u) Q X.xe s₂) X.xe s₁) X.xe s := by
  refine thn (ha pins s σ H _ I h) fun v s1 ⟨x, H1, I1, r1, q1⟩ => ?_
  refine thn (hb pins s1 σ H1 _ I1 q1) fun u s2 ⟨y, H2, I2, r2, q2⟩ => ?_
  exact hf v u s2 x y H2 I2 r1 r2 q2
theorem pe_op {op : Operator} {r : R2} (ho : OpR X (binaryOp op) r) (ha : PE X a ta) (hb : PE X b tb) : PE X (.BinOp a op b pos) (tOp r ta tb) := by
  intro pins s σ H Q I h
  exact wpAny_BinOp (binT ha hb I h fun v u s2 x y H2 I2 rx ry q => ho pins s2 σ H2 x y v u Q I2 rx ry q)
theorem pe_un {op : UnaryOp} {r : V → Hp → VK → Prop} (ho : UnR X (unaryOp op) r) (ha : PE X a ta) : PE X (.UnaryOp op a pos) (tUn r ta) := by
  intro pins s σ H Q I h
  exact UnaryOp_ (thn (ha pins s σ H _ I h) fun v s1 ⟨x, H1, I1, r1, q1⟩ => ho pins s1 σ H1 x v Q I1 r1 q1)
theorem opI {f : Value → Value → Sem Value} {C : Int → Int → Prop} {g : Int → Int → Int}
    (rule : ∀ (i j : Int) (t u : Tok) (s : Shared) (Q : Value → Shared → Prop) (E : Value → Shared → Prop), C i j → Q (.int (g i j) s.toks) { s with toks := s.toks + 1 } → wpAny (model X.prog X.w) X.A (f (.int i t) (.int j u)) Q E s) :
    OpR X f (rI C fun i j => .int (g i j)) := by
  intro pins s σ H x y v u Q I rx ry h
  obtain ⟨i, j, rfl, rfl, hc, q⟩ := h
  obtain ⟨t, rfl⟩ := rx
  obtain ⟨t', rfl⟩ := ry
  exact rule i j t t' s _ _ hc ⟨.int (g i j), H, I.tok _, ⟨_, rfl⟩, q⟩
theorem opI0 {f : Value → Value → Sem Value} {g : Int → Int → Int}
    (rule : ∀ (i j : Int) (t u : Tok) (s : Shared) (Q : Value → Shared → Prop) (E : Value → Shared → Prop), Q (.int (g i j) s.toks) { s with toks := s.toks + 1 } → wpAny (model X.prog X.w) X.A (f (.int i t) (.int j u)) Q E s) :
    OpR X f (rI0 fun i j => .int (g i j)) := by
  intro pins s σ H x y v u Q I rx ry h
  obtain ⟨i, j, rfl, rfl, q⟩ := h
  obtain ⟨t, rfl⟩ := rx
  obtain ⟨t', rfl⟩ := ry
  exact rule i j t t' s _ _ ⟨.int (g i j), H, I.tok _, ⟨_, rfl⟩, q⟩
theorem opB0 {f : Value → Value → Sem Value} {g : Int → Int → Bool}
    (rule : ∀ (i j : Int) (t u : Tok) (s : Shared) (Q : Value → Shared → Prop) (E : Value → Shared → Prop), Q (.bool (g i j)) s → wpAny (model X.prog X.w) X.A (f (.int i t) (.int j u)) Q E s) :
    OpR X f (rI0 fun i j => .bl (g i j)) := by
  intro pins s σ H x y v u Q I rx ry h
  obtain ⟨i, j, rfl, rfl, q⟩ := h
  obtain ⟨t, rfl⟩ := rx
  obtain ⟨t', rfl⟩ := ry
  exact rule i j t t' s _ _ ⟨.bl (g i j), H, I, rfl, q⟩
def CDiv (i j : Int) : Prop := 0 < j ∧ j < 1073741824
def CDivN (i j : Int) : Prop := j ≠ 0 ∧ j.natAbs < 1073741824
def CPow (i j : Int) : Prop := 0 ≤ j ∧ j ≤ 1000000 ∧ i.natAbs < 2 ^ 64
def CMul (i j : Int) : Prop := (-(2 ^ 64) < i ∧ i < 2 ^ 64) ∨ (-(2 ^ 64) < j ∧ j < 2 ^ 64)
theorem CMul.ok {i j : Int} (h : CMul i j) : IntMulOk i j := by
  rcases h with ⟨h1, h2⟩ | ⟨h1, h2⟩
  · exact .of_left (intBits_le_64 h1 h2)
  · exact .of_right (intBits_le_64 h1 h2)
theorem op_add : OpR X (binaryOp .Add) (rI0 fun i j => .int (i + j)) := opI0 fun _ _ _ _ _ _ _ q => add_int q
theorem op_sub : OpR X (binaryOp .Sub) (rI0 fun i j => .int (i - j)) := opI0 fun _ _ _ _ _ _ _ q => sub_int q
theorem op_mul : OpR X (binaryOp .Mult) (rI CMul fun i j => .int (i * j)) := opI fun _ _ _ _ _ _ _ hc q => mul_int q hc.ok
theorem op_fdiv : OpR X (binaryOp .FloorDiv) (rI CDiv fun i j => .int (i / j)) := opI fun i j _ _ _ _ _ hc q => by
  have h1 : (0 : Int) < j := hc.1
  have h2 : j < 1073741824 := hc.2
  exact floordiv_int (by omega) (by rw [Int.fdiv_eq_ediv_of_nonneg i (by omega)]; exact q) (.inl (PyProof.noPylong_small (by omega)))
theorem op_mod : OpR X (binaryOp .Mod) (rI (fun _ j => 0 < j) fun i j => .int (i % j)) := opI fun i j _ _ _ _ _ hc q => by
  have h1 : (0 : Int) < j := hc
  exact mod_int' (by omega) (by rw [Int.fmod_eq_emod_of_nonneg i (by omega)]; exact q)
theorem op_pow : OpR X (binaryOp .Pow) (rI CPow fun i j => .int (i ^ j.toNat)) := opI fun _ _ _ _ _ _ _ hc q => pow_int_small hc.1 hc.2.1 hc.2.2 q
theorem unI {f : Value → Sem Value} {g : Int → Int}
    (rule : ∀ (i : Int) (t : Tok) (s : Shared) (Q : Value → Shared → Prop) (E : Value → Shared → Prop), Q (.int (g i) s.toks) { s with toks := s.toks + 1 } → wpAny (model X.prog X.w) X.A (f (.int i t)) Q E s) :
    UnR X f (rU fun i => .int (g i)) := by
  intro pins s σ H x v Q I rx h
  obtain ⟨i, rfl, q⟩ := h
  obtain ⟨t, rfl⟩ := rx
  exact rule i t s _ _ ⟨.int (g i), H, I.tok _, ⟨_, rfl⟩, q⟩
theorem un_neg : UnR X (unaryOp .USub) (rU fun i => .int (-i)) := unI fun _ _ _ _ _ q => neg_int q
end
def scal : V → V → Bool
  | .non, .non => true | .non, .int _ => true | .int _, .non => true | .non, .bl _ => true | .bl _, .non => true | .non, .str _ => true | .str _, .non => true
  | .int _, .int _ => true | .bl _, .bl _ => true | .str _, .str _ => true | .byt _, .byt _ => true
  | .int _, .str _ => true | .str _, .int _ => true | .bl _, .str _ => true | .str _, .bl _ => true
  | _, _ => false
def rEq : R2 := fun x y H Q => scal x y = true ∧ Q (.bl (decide (x = y))) H
def rNe : R2 := fun x y H Q => scal x y = true ∧ Q (.bl (!decide (x = y))) H
section
variable {X : Cx} {a b c : Expr} {ta tb tc : TE} {pos : Pos}
theorem fin_bl {pins : List (Addr × Obj)} {σ : St} {H : Hp} {s : Shared} {Q : VK} {k k' : Bool} (I : Inv X pins σ H s) (q : Q (.bl k) H) (e : k = k') : EP X pins σ Q (.bool k') s := by
  subst e
  exact ⟨.bl k, H, I, rfl, q⟩
theorem op_lt : OpR X (compareOp .Lt) (rI0 fun i j => .bl (decide (i < j))) := opB0 fun _ _ _ _ _ _ _ q => lt_int q
theorem op_le : OpR X (compareOp .LtE) (rI0 fun i j => .bl (decide (i ≤ j))) := opB0 fun _ _ _ _ _ _ _ q => le_int q
theorem op_gt : OpR X (compareOp .Gt) (rI0 fun i j => .bl (decide (j < i))) := opB0 fun _ _ _ _ _ _ _ q => gt_int q
theorem op_ge : OpR X (compareOp .GtE) (rI0 fun i j => .bl (decide (j ≤ i))) := opB0 fun _ _ _ _ _ _ _ q => ge_int q
theorem op_isN : OpR X (compareOp .Is) (fun x y H Q => y = .non ∧ Q (.bl (decide (x = .non))) H) := by
  intro pins s σ H x y v u Q I rx ry h
  obtain ⟨rfl, q⟩ := h
  cases ry
  refine is_none_gen (fin_bl I q ?_)
  cases x <;> first
    | (cases rx; rfl)
    | (obtain ⟨t, rfl⟩ := rx; rfl)
theorem op_notN : OpR X (compareOp .IsNot) (fun x y H Q => y = .non ∧ Q (.bl (!decide (x = .non))) H) := by
  intro pins s σ H x y v u Q I rx ry h
  obtain ⟨rfl, q⟩ := h
  cases ry
  refine isnot_none_gen (fin_bl I q ?_)
  cases x <;> first
    | (cases rx; rfl)
    | (obtain ⟨t, rfl⟩ := rx; rfl)
def isObj : HO → Bool
  | .lst _ => true
  | .ins _ _ _ => true
  | _ => false
theorem OpR.or {f : Value → Value → Sem Value} {r r' : R2} (h : OpR X f r) (h' : OpR X f r') : OpR X f (fun x y H Q => r x y H Q ∨ r' x y H Q) := by
  intro pins s σ H x y v u Q I rx ry q
  rcases q with q | q
  · exact h pins s σ H x y v u Q I rx ry q
  · exact h' pins s σ H x y v u Q I rx ry q
theorem nomark (b : Expr) {op : CmpOp} (h : op ≠ .In := by decide) (h2 : op ≠ .NotIn := by decide) : behindInMarks op b = false := by
  have e1 : (op == CmpOp.In) = false := by cases op <;> first | rfl | exact absurd rfl h
  have e2 : (op == CmpOp.NotIn) = false := by cases op <;> first | rfl | exact absurd rfl h2
  cases b <;> simp [behindInMarks, e1, e2]
theorem pe_cmpR {op : CmpOp} {r : R2} (ho : OpR X (compareOp op) r) (ha : PE X a ta) (hb : PE X b tb) (hm : behindInMarks op b = false) : PE X (.Compare a [op] [b] pos) (tOp r ta tb) := by
  intro pins s σ H Q I h
  exact wpAny_Compare1 (binT ha hb I h fun v u s2 x y H2 I2 rx ry q => ho pins s2 σ H2 x y v u Q I2 rx ry q) hm
def tTest (t : TE) : TT := fun σ H Q => t σ H fun x H' => ∃ k, x = .bl k ∧ Q k H'
theorem pt_cmpR {op : CmpOp} {r : R2} (ho : OpR X (compareOp op) r) (ha : PE X a ta) (hb : PE X b tb) (hm : behindInMarks op b = false) : PT X (.Compare a [op] [b] pos) (tTest (tOp r ta tb)) := by
  intro pins s σ H Q I h
  refine wpAny_isTrue_Compare1 (thn (ha pins s σ H _ I h) fun v s1 ⟨x, H1, I1, r1, q1⟩ => thn (hb pins s1 σ H1 _ I1 q1) fun u s2 ⟨y, H2, I2, r2, q2⟩ =>
    thn (ho pins s2 σ H2 x y v u _ I2 r1 r2 q2) fun c s3 ⟨z, H3, I3, r3, k, e, q3⟩ => ?_) hm
  subst e
  cases r3
  exact wpAny_truthy_bool ⟨H3, I3, q3⟩
def tChain (r r' : R2) (ta tb tc : TE) : TE := fun σ H Q => ta σ H fun x H1 => tb σ H1 fun y H2 => r x y H2 fun z H3 => ∃ k, z = .bl k ∧
  (if k = true then tc σ H3 fun w' H4 => r' y w' H4 Q else Q (.bl false) H3)
theorem pe_chain {op op' : CmpOp} {r r' : R2} (ho : OpR X (compareOp op) r) (ho' : OpR X (compareOp op') r') (ha : PE X a ta) (hb : PE X b tb) (hc : PE X c tc)
    (hm : lastMarks [op, op'] [b, c] = false := by with_unfolding_all rfl) : PE X (.Compare a [op, op'] [b, c] pos) (tChain r r' ta tb tc) := by
  intro pins s σ H Q I h
  refine Compare_chain (thn (ha pins s σ H _ I h) fun v s1 ⟨x, H1, I1, r1, q1⟩ => chain_link (thn (hb pins s1 σ H1 _ I1 q1) fun u s2 ⟨y, H2, I2, r2, q2⟩ =>
    thn (ho pins s2 σ H2 x y v u _ I2 r1 r2 q2) fun d s3 ⟨z, H3, I3, r3, k, e, q3⟩ => ?_)) hm
  subst e
  cases r3
  refine wpAny_truthy_bool ?_
  cases k with
  | false => exact ite_ff ⟨.bl false, H3, I3, rfl, q3⟩
  | true => exact ite_tt (chain_last (thn (hc pins s3 σ H3 _ I3 q3) fun w' s4 ⟨z', H4, I4, r4, q4⟩ => ho' pins s4 σ H4 y z' u w' Q I4 r2 r4 q4))
theorem pt_chain {op op' : CmpOp} {r r' : R2} (ho : OpR X (compareOp op) r) (ho' : OpR X (compareOp op') r') (ha : PE X a ta) (hb : PE X b tb) (hc : PE X c tc)
    (hm : lastMarks [op, op'] [b, c] = false := by with_unfolding_all rfl) : PT X (.Compare a [op, op'] [b, c] pos) (tTest (tChain r r' ta tb tc)) := by
  intro pins s σ H Q I h
  refine isTrue_chain (thn (ha pins s σ H _ I h) fun v s1 ⟨x, H1, I1, r1, q1⟩ => test_link (thn (hb pins s1 σ H1 _ I1 q1) fun u s2 ⟨y, H2, I2, r2, q2⟩ =>
    thn (ho pins s2 σ H2 x y v u _ I2 r1 r2 q2) fun d s3 ⟨z, H3, I3, r3, k, e, q3⟩ => ?_)) hm
  subst e
  cases r3
  refine wpAny_truthy_bool ?_
  cases k with
  | false =>
    obtain ⟨k', e', q'⟩ := q3
    cases e'
    exact ite_ff ⟨H3, I3, q'⟩
  | true =>
    refine ite_tt (test_last (thn (hc pins s3 σ H3 _ I3 q3) fun w' s4 ⟨z', H4, I4, r4, q4⟩ => thn (ho' pins s4 σ H4 y z' u w' _ I4 r2 r4 q4) fun d' s5 ⟨z2, H5, I5, r5, k2, e2, q5⟩ => ?_))
    subst e2
    cases r5
    exact wpAny_truthy_bool ⟨H5, I5, q5⟩
def TruV (K : PySem.W.Frag) (x : V) (H : Hp) (k : Bool) : Prop :=
  match x with
  | .non => k = false
  | .bl b => k = b
  | .int i => k = (i != 0)
  | .str y => y.length ≤ sizeLine ∧ k = ((y.length : Int) != 0)
  | .byt y => y.size ≤ sizeLine ∧ k = ((y.size : Int) != 0)
  | .ref p => (∃ xs, SqL K H p xs ∧ k = !xs.isEmpty) ∨ (∃ xs, SqT K H p xs ∧ k = !xs.isEmpty) ∨ ∃ kvs, H p = some (.dK kvs) ∧ k = !kvs.isEmpty
  | _ => False
theorem line63 : (sizeLine : Nat) < 2 ^ 63 := by rw [sizeLine_eq]; decide
def PlainIxT (b : Expr) : Prop := ∀ o i, subscripted b false o i = operate [o, i] (getItem o i)
theorem vals1 {x : V} {us : List Value} (r : Vals [x] us) : ∃ u, us = [u] ∧ RelV x u := by
  cases r with
  | cons r1 r2 => cases r2; exact ⟨_, rfl, r1⟩
theorem vals2 {x y : V} {us : List Value} (r : Vals [x, y] us) : ∃ u w', us = [u, w'] ∧ RelV x u ∧ RelV y w' := by
  cases r with
  | cons r1 r2 =>
    cases r2 with
    | cons r3 r4 => cases r4; exact ⟨_, _, rfl, r1, r3⟩
theorem call_max2 (hc : X.calm = true) : CallR X (.builtin "max") (fun xs H Q => ∃ i j, xs = [.int i, .int j] ∧ Q (.int (if j > i then j else i)) H) := by
  intro pins s σ H xs us Q I r h
  obtain ⟨i, j, rfl, q⟩ := h
  obtain ⟨u, w', rfl, ⟨t, rfl⟩, ⟨t', rfl⟩⟩ := vals2 r
  refine max_two_ints (I.ok.hd hc) fun h' tk k => ⟨_, H, I.kept k, ?_, q⟩
  by_cases hj : j > i
  · rw [if_pos hj, if_pos hj]; exact ⟨_, rfl⟩
  · rw [if_neg hj, if_neg hj]; exact ⟨_, rfl⟩
theorem call_min2 (hc : X.calm = true) : CallR X (.builtin "min") (fun xs H Q => ∃ i j, xs = [.int i, .int j] ∧ Q (.int (if j < i then j else i)) H) := by
  intro pins s σ H xs us Q I r h
  obtain ⟨i, j, rfl, q⟩ := h
  obtain ⟨u, w', rfl, ⟨t, rfl⟩, ⟨t', rfl⟩⟩ := vals2 r
  refine min_two_ints (I.ok.hd hc) fun h' tk k => ⟨_, H, I.kept k, ?_, q⟩
  by_cases hj : j < i
  · rw [if_pos hj, if_pos hj]; exact ⟨_, rfl⟩
  · rw [if_neg hj, if_neg hj]; exact ⟨_, rfl⟩
theorem call_str_int : CallR X (.type "str") (fun xs H Q => ∃ i, xs = [.int i] ∧ i.natAbs.log2 < 1920 ∧ Q (.str (toString i)) H) := by
  intro pins s σ H xs us Q I r h
  obtain ⟨i, rfl, hz, q⟩ := h
  obtain ⟨u, rfl, t, rfl⟩ := vals1 r
  exact PySem.P.str_of_int hz ⟨.str _, H, I.tok _, ⟨_, rfl⟩, q⟩
def LenV (K : PySem.W.Frag) (x : V) (H : Hp) (n : Nat) : Prop :=
  match x with
  | .str y => y.length ≤ sizeLine ∧ n = y.length
  | .byt y => y.size ≤ sizeLine ∧ n = y.size
  | .ref p => (∃ xs, SqL K H p xs ∧ n = xs.length) ∨ ∃ xs, SqT K H p xs ∧ n = xs.length
  | _ => False
end
end L2
namespace L2
open PySem PySem.Spec PyProof.Rows
structure ObjM (h : Heap) (x dx C : Addr) (mA : Str → Option Value) : Prop where
  obj : h.get? x = some (PySem.W.instObj C dx)
  ns : h.Ns1 dx mA
  ne : dx ≠ x
theorem lookIn_ns {h : Heap} {dx : Addr} {mA : Str → Option Value} (n : h.Ns1 dx mA) : ∃ od, h.get? dx = some od ∧ ∀ name, PySem.W.lookIn name od = some (mA name) := by
  obtain ⟨o, es, ep, ho, hd, hk, _, hm⟩ := n
  refine ⟨o, ho, fun name => ?_⟩
  have e := hm name
  unfold nsFind findBy at e
  rw [← Array.find?_toList] at e
  unfold PySem.W.lookIn
  rw [hd]
  dsimp only
  split
  · rename_i y q
    rw [q] at e
    exact congrArg some e
  · rename_i q
    rw [q] at e
    have a : es.toList.any (·.refKey) = false := by
      rw [List.any_eq_false]
      intro y hy
      obtain ⟨z, t, hkey⟩ := hk y (Array.mem_toList_iff.mp hy)
      simp [DictEntry.refKey, hkey]
    have a' : ¬ es.toList.any (·.refKey) = true := by rw [a]; exact Bool.false_ne_true
    rw [if_neg a']
    exact congrArg some e
theorem ObjM.look {h : Heap} {x dx C : Addr} {mA : Str → Option Value} (I : ObjM h x dx C mA) : ∃ od, PySem.W.InstAt h x (PySem.W.instObj C dx) C (some od) ∧ ∀ name, PySem.W.lookIn name od = some (mA name) :=
  let ⟨od, ho, hl⟩ := lookIn_ns I.ns
  ⟨od, ⟨I.obj, rfl, rfl, ho⟩, hl⟩
section
variable {prog : Program} {w : World} {A : Around} {E : Value → Shared → Prop} {s : Shared} {K : PySem.W.Frag} {x dx C f : Addr} {mA : Str → Option Value} {name : Str} {v : Value}
end
def putF (f : Str) (v : V) : List (Str × V) → List (Str × V)
  | [] => [(f, v)]
  | (g, x) :: r => if g = f then (g, v) :: r else (g, x) :: putF f v r
section
variable {P : Program} {w : World} {H H' : Hp} {h h' : Heap} {a C dx : Addr} {fs fs' : List (Str × V)}
theorem ins_get (hok : HOk P w H h) (e : H a = some (.ins C dx fs)) : ∃ mA, ObjM h a dx C mA ∧ (∀ f, RelO (fs.lookup f) (mA f)) ∧ PySem.Within mA (fs.map (·.1)) ∧ fs.length ≤ 1000 ∧ H dx = some (.own a) := by
  obtain ⟨d, z, ne, ob, mA, n, r, q⟩ := (show ObjOk P w H h a (.ins C dx fs) from hok a _ e)
  exact ⟨mA, ⟨ob, n, ne⟩, r, q, z, d⟩
end
structure Cls (K : PySem.W.Frag) (C : Addr) : Prop where
  pg : PySem.W.plainGet K C Str.empty = true
  hd : PySem.W.hasDictIn K C = true
  po : PySem.W.plainOver K C = true
  sa : PySem.W.findIn K (.ref C) "__setattr__" = some (some (.builtin "object.__setattr__"))
theorem Cls.get {K : PySem.W.Frag} {C : Addr} (c : Cls K C) (f : Str) : PySem.W.plainGet K C f = true := c.pg
def NoAttr (K : PySem.W.Frag) (C : Addr) (f : Str) : Prop := PySem.W.findIn K (.ref C) f = some none
structure Con (K : PySem.W.Frag) (C : Addr) (f : Str) (v : V) (u : Value) : Prop where
  at_ : PySem.W.findIn K (.ref C) f = some (some u)
  rel : RelV v u
  get : PySem.W.specialIn K u "__get__" = some none
  cp : PySem.W.copiedNames.contains f = false
structure Meth (K : PySem.W.Frag) (C : Addr) (m : Str) (f : Addr) : Prop where
  at_ : PySem.W.findIn K (.ref C) m = some (some (.ref f))
  fn : PySem.W.isFn K (.ref f) = true
  kp : PySem.W.keepIn K (.ref f) = true
section
variable {X : Cx} {pins : List (Addr × Obj)} {σ : St} {H : Hp} {s : Shared} {a C dx : Addr} {fs : List (Str × V)} {f : Str} {v : V} {A : Around} {E : Value → Shared → Prop}
theorem Inv.made (I : Inv X pins σ H s) : Inv X pins σ (upd (upd H s.heap.objs.size (.own (s.heap.objs.size + 1))) (s.heap.objs.size + 1) (.ins C s.heap.objs.size []))
    { s with heap := (s.heap.push PySem.W.emptyDict).push (PySem.W.instObj C s.heap.objs.size) } := by
  have e1 : (s.heap.push PySem.W.emptyDict).get? s.heap.objs.size = some PySem.W.emptyDict := Heap.get?_push_size s.heap rfl
  have e2 : ((s.heap.push PySem.W.emptyDict).push (PySem.W.instObj C s.heap.objs.size)).get? (s.heap.objs.size + 1) = some (PySem.W.instObj C s.heap.objs.size) := by
    have := Heap.get?_push_size (s.heap.push PySem.W.emptyDict) (o := PySem.W.instObj C s.heap.objs.size) rfl
    rwa [Heap.size_push] at this
  have e3 : (s.heap.push PySem.W.emptyDict).Ns s.heap.objs.size (fun _ => none) := ⟨PySem.W.emptyDict, #[], _, e1, rfl, (fun e he => absurd he (by simp)), fun _ => rfl⟩
  have I1 := I.laid (a := s.heap.objs.size) (o := .own (s.heap.objs.size + 1)) (h' := s.heap.push PySem.W.emptyDict) (t' := s.toks) (fun b u q => Heap.get?_push_of_some _ q) (Nat.le_refl _) ⟨_, e1⟩
  refine I1.laid (a := s.heap.objs.size + 1) (o := .ins C s.heap.objs.size []) (t' := s.toks) (fun b u q => Heap.get?_push_of_some _ q) (Nat.le_of_eq (Heap.size_push _ _)) ?_
  have ne : s.heap.objs.size ≠ s.heap.objs.size + 1 := Nat.ne_of_lt (Nat.lt_succ_self _)
  refine ⟨by rw [upd_ne ne, upd_same], Nat.zero_le _, ne, e2, fun _ => none, (Heap.Ns1.of_empty e3).at fun o q => Heap.get?_push_of_some _ q, fun _ => True.intro, fun y hy => absurd rfl hy⟩
end
def tFld (K : PySem.W.Frag) (ta : TE) (f : Str) : TE := fun σ H Q => ta σ H fun x H1 => ∃ a C dx fs v, x = .ref a ∧ H1 a = some (.ins C dx fs) ∧ Cls K C ∧ NoAttr K C f ∧ fs.lookup f = some v ∧ Q v H1
def tCon (K : PySem.W.Frag) (ta : TE) (f : Str) : TE := fun σ H Q => ta σ H fun x H1 => ∃ a C dx fs v u, x = .ref a ∧ H1 a = some (.ins C dx fs) ∧ Cls K C ∧ Con K C f v u ∧ fs.lookup f = none ∧ Q v H1
def sFld (K : PySem.W.Frag) (ta tv : TE) (f : Str) : TS := fun D σ H => tv σ H fun y H1 => ta σ H1 fun x H2 => ∃ a C dx fs, x = .ref a ∧ H2 a = some (.ins C dx fs) ∧ Cls K C ∧ NoAttr K C f ∧ fs.length < 1000 ∧
  D.nx σ (upd H2 a (.ins C dx (putF f y fs)))
def InOp (X : Cx) (op : Operator) (rd : V → V → Hp → VK → Prop) : Prop :=
  ∀ (pins : List (Addr × Obj)) (s : Shared) (σ : St) (H : Hp) (x y : V) (u v : Value) (Q : VK), Inv X pins σ H s → RelV x u → RelV y v → rd x y H Q → wpAny (model X.prog X.w) X.A (inplaceOp op u v) (EP X pins σ Q) X.xe s
def sFldAug (K : PySem.W.Frag) (ta tv : TE) (rd : V → V → Hp → VK → Prop) (f : Str) : TS := fun D σ H => ta σ H fun x H1 => ∃ a C dx fs v, x = .ref a ∧ H1 a = some (.ins C dx fs) ∧ Cls K C ∧ NoAttr K C f ∧ fs.lookup f = some v ∧
  tv σ H1 fun y H2 => rd v y H2 fun z H3 => ∃ dx' fs', H3 a = some (.ins C dx' fs') ∧ fs'.length < 1000 ∧ D.nx σ (upd H3 a (.ins C dx' (putF f z fs')))
section
variable {X : Cx} {o e value : Expr} {f : Str} {pos pos' tpos : Pos} {ta tv : TE}
def rAdd : V → V → Hp → VK → Prop := fun x y H Q => ∃ i j, x = .int i ∧ y = .int j ∧ Q (.int (i + j)) H
def rSub : V → V → Hp → VK → Prop := fun x y H Q => ∃ i j, x = .int i ∧ y = .int j ∧ Q (.int (i - j)) H
end
section
variable {X : Cx} {pins : List (Addr × Obj)} {σ : St} {H : Hp} {s : Shared} {A : Around} {E : Value → Shared → Prop} {Q : Value → Shared → Prop} {c : Value} {b : Bool}
inductive TyOf (K : PySem.W.Frag) (H : Hp) : V → Value → Prop where
  | non : TyOf K H .non (.type "NoneType")
  | bl (x : Bool) : TyOf K H (.bl x) (.type "bool")
  | int (i : Int) : TyOf K H (.int i) (.type "int")
  | str (x : Str) : TyOf K H (.str x) (.type "str")
  | flt (x : UInt64) : TyOf K H (.flt x) (.type "float")
  | lst {a : Addr} {xs : List V} (e : H a = some (.lst xs)) : TyOf K H (.ref a) (.type "list")
  | frz {a : Addr} {o : Obj} {xs : List V} (e : H a = some (.frz o (.lst xs))) : TyOf K H (.ref a) (.type "list")
  | tup {a : Addr} {xs : List V} (e : H a = some (.tup xs)) : TyOf K H (.ref a) (.type "tuple")
  | dK {a : Addr} {kvs : List (Key × V)} (e : H a = some (.dK kvs)) : TyOf K H (.ref a) (.type "dict")
  | dT {a : Addr} {kvs : List (List Key × V)} (e : H a = some (.dT kvs)) : TyOf K H (.ref a) (.type "dict")
  | ins {a C dx : Addr} {fs : List (Str × V)} (e : H a = some (.ins C dx fs)) (cl : Cls K C) (ha : PySem.W.findIn K (.ref C) "__class__" = some (some (.builtin "object.__class__")))
      (hn : PySem.W.specialIn K (.builtin "object.__class__") "__get__" = some (some (.builtin "getset_descriptor.__get__"))) (htk : PySem.W.takesIn K (.builtin "object.__class__") = some true)
      (hm : PySem.W.mroIn K C (.type "object") = some true) : TyOf K H (.ref a) (.ref C)
theorem isinst_ok {x : V} {u t : Value} (I : Inv X pins σ H s) (rx : RelV x u) (ty : TyOf X.K H x t) (e : PySem.W.kitOne X.K t c = some b) (h : ∀ tk, Q (.bool b) { s with toks := tk }) :
    wpAny (model X.prog X.w) A (call (.builtin "isinstance") [u, c]) Q E s := by
  cases ty with
  | non => cases (show u = Value.none from rx); exact PySem.W.kia_one PySem.W.kitx_none I.kIn True.intro e (fun z => nomatch z) h
  | bl y => cases (show u = Value.bool y from rx); exact PySem.W.kia_one PySem.W.kitx_bool I.kIn True.intro e (fun z => nomatch z) h
  | int i => obtain ⟨t, q⟩ := (show ∃ t, u = Value.int i t from rx); cases q; exact PySem.W.kia_one PySem.W.kitx_int I.kIn True.intro e (fun z => nomatch z) h
  | str y => obtain ⟨t, q⟩ := (show ∃ t, u = Value.str y t from rx); cases q; exact PySem.W.kia_one PySem.W.kitx_str I.kIn True.intro e (fun z => nomatch z) h
  | flt y => obtain ⟨t, q⟩ := (show ∃ t, u = Value.float y t from rx); cases q; exact PySem.W.kia_one PySem.W.kitx_float I.kIn True.intro e (fun z => nomatch z) h
  | @lst a xs ea =>
    cases (show u = Value.ref a from rx)
    obtain ⟨_, _, n, _, h1⟩ := (show ObjOk X.prog X.w H s.heap a (.lst xs) from I.hok a _ ea)
    exact PySem.W.kia_one PySem.W.kitx_list I.kIn ⟨_, h1, rfl⟩ e (fun z => nomatch z) h
  | @frz a ob xs ea =>
    cases (show u = Value.ref a from rx)
    obtain ⟨_, _, _, n, _, h1⟩ := (show ObjOk X.prog X.w H s.heap a (.frz ob (.lst xs)) from I.hok a _ ea)
    exact PySem.W.kia_one PySem.W.kitx_list I.kIn ⟨_, h1, rfl⟩ e (fun z => nomatch z) h
  | @tup a xs ea =>
    cases (show u = Value.ref a from rx)
    obtain ⟨_, _, _, p⟩ := (show ObjOk X.prog X.w H s.heap a (.tup xs) from I.hok a _ ea)
    obtain ⟨o, h1, h2, _⟩ := p
    exact PySem.W.kia_one PySem.W.kitx_tuple I.kIn ⟨o, h1, h2⟩ e (fun z => nomatch z) h
  | @dK a kvs ea =>
    cases (show u = Value.ref a from rx)
    obtain ⟨_, _, vs, _, p⟩ := (show ObjOk X.prog X.w H s.heap a (.dK kvs) from I.hok a _ ea)
    obtain ⟨o, es, ep, h1, h2, _⟩ := p
    exact PySem.W.kia_one PySem.W.kitx_dict I.kIn ⟨o, h1, h2.1⟩ e (fun z => nomatch z) h
  | @dT a kvs ea =>
    cases (show u = Value.ref a from rx)
    obtain ⟨_, _, xs, _, o, es, ep, h1, h2, _⟩ := (show ObjOk X.prog X.w H s.heap a (.dT kvs) from I.hok a _ ea)
    exact PySem.W.kia_one PySem.W.kitx_dict I.kIn ⟨o, h1, h2.1⟩ e (fun z => nomatch z) h
  | @ins a C dx fs ea cl ha hn htk hm =>
    cases (show u = Value.ref a from rx)
    obtain ⟨mA, O, _⟩ := ins_get I.hok ea
    obtain ⟨od, J, _⟩ := O.look
    exact PySem.W.kia_one (PySem.W.kitx_own (cl.get _) cl.hd ha hn htk hm) I.kIn J e (fun z => nomatch z) h
end
end L2
namespace L2
open PySem PySem.Spec PyProof.Rows
structure Room (k : Nat) (A : Around) : Prop where
  hd : A.handled = none
  dp : A.depth + 3 * k + 5 < recursionLimit
  un : A.units + 16 * k + 200 < cLine
theorem Room.mono {j k : Nat} {A : Around} (r : Room k A) (h : j ≤ k) : Room j A := ⟨r.hd, by have := r.dp; omega, by have := r.un; omega⟩
theorem Room.deeper {k : Nat} {A : Around} (r : Room (k + 1) A) (env : Env) : Room k (A.deeper env) :=
  ⟨r.hd, by have := r.dp; show A.depth + 1 + 3 * k + 5 < _; omega, by have := r.un; show A.units + 3 + 16 * k + 200 < _; omega⟩
theorem Room.in1 {k : Nat} {A : Around} (r : Room (k + 1) A) : Room k A.in1 :=
  ⟨r.hd, by have := r.dp; show A.depth + 3 * k + 5 < _; omega, by have := r.un; show A.units + 1 + 16 * k + 200 < _; omega⟩
theorem Room.depth {k : Nat} {A : Around} (r : Room k A) : A.depth < recursionLimit := by have := r.dp; omega
theorem Room.units {k : Nat} {A : Around} (r : Room k A) : A.units + 64 < cLine := by have := r.un; omega
def tNil : TA := fun _ H Q => Q [] H
def tCons (ta : TE) (tr : TA) : TA := fun σ H Q => ta σ H fun x H1 => tr σ H1 fun xs H2 => Q (x :: xs) H2
section
variable {X : Cx} {e : Expr} {es : List Expr} {te : TE} {t : TA} {pos : Pos}
theorem pa_nil : PA X [] tNil := fun _ _ _ _ H Q I h => Calls.spliced_nil ⟨[], H, I, .nil, h⟩
theorem pa_cons (ha : PE X e te) (hr : PA X es t) (hs : starEach (e :: es) X.env = (false, eval e X.env) :: starEach es X.env := by rfl) : PA X (e :: es) (tCons te t) := by
  intro pos pins s σ H Q I h
  rw [hs]
  show wpAny _ _ (spliced ((false, eval e X.env) :: backTo pos (starEach es X.env))) _ _ s
  refine Calls.spliced_cons (thn (ha pins s σ H _ I h) fun u s1 ⟨x, H1, I1, r1, q1⟩ => ?_)
  exact thn (hr pos pins s1 σ H1 _ I1 q1) fun us s2 ⟨xs, H2, I2, r2, q2⟩ => ⟨x :: xs, H2, I2, .cons r1 r2, q2⟩
def tTup (t : TA) : TE := fun σ H Q => t σ H fun xs H1 => xs.length ≤ sizeLine ∧ ∀ p, H1 p = none → Q (.ref p) (upd H1 p (.tup xs))
def tLst (t : TA) : TE := fun σ H Q => t σ H fun xs H1 => xs.length ≤ sizeLine ∧ ∀ p, H1 p = none → Q (.ref p) (upd H1 p (.lst xs))
theorem pe_tup {x1} (h : PA X es t) : PE X (.Tuple es x1 pos) (tTup t) := by
  intro pins s σ H Q I hq
  refine wpAny_Tuple_spliced (thn (h pos pins s σ H _ I hq) fun us s1 ⟨xs, H1, I1, r, z, q⟩ => ⟨by rw [← r.length]; exact z, ?_⟩)
  have hf : H1 s1.heap.objs.size = none := I1.hok.fresh (Nat.le_refl _)
  refine ⟨.ref s1.heap.objs.size, upd H1 s1.heap.objs.size (.tup xs), I1.laid (t' := s1.toks) (fun b u e => Heap.get?_push_of_some _ e) (Nat.le_refl _) ?_, rfl, q _ hf⟩
  exact ⟨z, us, r, ⟨_, Heap.get?_push_size _ rfl, rfl, _, rfl⟩⟩
theorem pe_lst (h : PA X es t) : PE X (.List es pos) (tLst t) := by
  intro pins s σ H Q I hq
  refine wpAny_List_spliced (thn (h pos pins s σ H _ I hq) fun us s1 ⟨xs, H1, I1, r, z, q⟩ => ⟨by rw [← r.length]; exact z, ?_⟩)
  have hf : H1 s1.heap.objs.size = none := I1.hok.fresh (Nat.le_refl _)
  refine ⟨.ref s1.heap.objs.size, upd H1 s1.heap.objs.size (.lst xs), I1.laid (t' := s1.toks) (fun b u e => Heap.get?_push_of_some _ e) (Nat.le_refl _) ?_, rfl, q _ hf⟩
  exact ⟨z, us, 0, r, Heap.get?_push_size _ rfl⟩
end
abbrev Sp := List V → Hp → VK → XK → Prop
abbrev CXT := List Env → Hp → Shared → XK → Value → Shared → Prop
structure Env0 (P : Program) (w : World) (K : PySem.W.Frag) (mg : Str → Option Value) (base : Heap) (A : Around) (outer : List Env) (s : Shared) (H : Hp) : Prop where
  frames : A.frames = some outer
  mod : Mod K mg base
  bs : ∀ b o, base.get? b = some o → s.heap.get? b = some o ∧ H b = none
  bsz : base.objs.size ≤ s.heap.objs.size
  funs : s.heap.FunFrames base outer
  frf : ∀ b ∈ frs outer, H b = none
  hok : HOk P w H s.heap
  bare : AllBare s.gens
def CE (outer : List Env) (P : Program) (w : World) (H : Hp) (s : Shared) (Q : VK) (u : Value) (s' : Shared) : Prop :=
  ∃ v H', s'.os = s.os ∧ AllBare s'.gens ∧ Un (frs outer) [] H H' s.heap s'.heap ∧ HOk P w H' s'.heap ∧ RelV v u ∧ Q v H'
def CR (CX : CXT) (outer : List Env) (P : Program) (w : World) (H : Hp) (s : Shared) (Q : VK) (E : XK) (r : Result) (s' : Shared) : Prop :=
  match r with
  | .ok (.ret u) => CE outer P w H s Q u s'
  | .ok _ => False
  | .error e => CX outer H s E e s'
structure FnOk (P : Program) (w : World) (K : PySem.W.Frag) (mg : Str → Option Value) (base : Heap) (CX : CXT) (k : Nat) (f : Addr) (fd : FuncData) (ps : List Str) (sp : Sp) : Prop where
  len : ∀ vs H Q E, sp vs H Q E → vs.length = ps.length
  run : ∀ (A : Around) (outer : List Env) (s : Shared) (H : Hp) (args : Args) (us : List Value) (vs : List V) (Q : VK) (E : XK), Room k A → Env0 P w K mg base A outer s H → BindsTo s fd args (ps.zip us) → Vals vs us → sp vs H Q E →
    codeAny (model P w) A (.call (.ref f) args) (CR CX outer P w H s Q E) s
theorem FnOk.mono {P : Program} {w : World} {K : PySem.W.Frag} {mg : Str → Option Value} {base : Heap} {CX : CXT} {j k : Nat} {f : Addr} {fd : FuncData} {ps : List Str} {sp : Sp} (F : FnOk P w K mg base CX j f fd ps sp) (h : j ≤ k) :
    FnOk P w K mg base CX k f fd ps sp := ⟨F.len, fun A outer s H args us vs Q E hr => F.run A outer s H args us vs Q E (hr.mono h)⟩
theorem FnOk.imp {P : Program} {w : World} {K : PySem.W.Frag} {mg : Str → Option Value} {base : Heap} {CX : CXT} {k : Nat} {f : Addr} {fd : FuncData} {ps : List Str} {sp sp' : Sp} (F : FnOk P w K mg base CX k f fd ps sp)
    (h : ∀ vs H Q E, sp' vs H Q E → sp vs H Q E) : FnOk P w K mg base CX k f fd ps sp' :=
  ⟨fun vs H Q E q => F.len vs H Q E (h _ _ _ _ q), fun A outer s H args us vs Q E hr he hb hv hs => F.run A outer s H args us vs Q E hr he hb hv (h _ _ _ _ hs)⟩
theorem Env0.in1 {P : Program} {w : World} {K : PySem.W.Frag} {mg : Str → Option Value} {base : Heap} {A : Around} {outer : List Env} {s : Shared} {H : Hp} (e : Env0 P w K mg base A outer s H) :
    Env0 P w K mg base A.in1 outer s H := ⟨e.frames, e.mod, e.bs, e.bsz, e.funs, e.frf, e.hok, e.bare⟩
section
variable {X : Cx} {pins : List (Addr × Obj)} {σ : St} {H : Hp} {s s' : Shared}
theorem Inv.env0 (I : Inv X pins σ H s) : Env0 X.prog X.w X.K X.mg X.base X.A X.stack s H :=
  ⟨I.ok.frames, I.ok.mod, I.bs, Nat.le_trans I.ok.bsz I.sz, I.stack, I.stkFree, I.hok, I.bare⟩
theorem Inv.after {Q : VK} {u : Value} (I : Inv X pins σ H s) (h : CE X.stack X.prog X.w H s Q u s') : EP X pins σ Q u s' := by
  obtain ⟨v, H', os, bare, un, hok, r, q⟩ := h
  obtain ⟨hh, g, d, t, os'⟩ := s'
  obtain rfl : os' = s.os := os
  exact ⟨v, H', I.call (h' := hh) (g' := g) (d' := d) (t' := t) (ch := []) un hok bare (fun b z => absurd z (by simp)), r, q⟩
end
def tCall (sp : Sp) (dvs : List V) (E : XK) (t : TA) : TE := fun σ H Q => t σ H fun vs H1 => sp (vs ++ dvs) H1 Q E
def tMeth (C : Addr) (m : Str) (sp : Sp) (dvs : List V) (E : XK) (ta : TE) (t : TA) : TE := fun σ H Q => ta σ H fun x H1 => ∃ a dx fs, x = .ref a ∧ H1 a = some (.ins C dx fs) ∧ fs.lookup m = none ∧
  t σ H1 fun vs H2 => sp (x :: (vs ++ dvs)) H2 Q E
def tMake (C : Addr) (sp : Sp) (dvs : List V) (E : XK) (t : TA) : TE := fun σ H Q => t σ H fun vs H1 => ∀ x dx, H1 x = none → H1 dx = none → dx ≠ x →
  sp (.ref x :: (vs ++ dvs)) (upd (upd H1 dx (.own x)) x (.ins C dx [])) (fun v H2 => v = .non ∧ Q (.ref x) H2) E
def Binds (K : PySem.W.Frag) (fd : FuncData) (ps : List Str) (ds : List Value) : Prop :=
  ∀ (s : Shared) (us : List Value), K.In s.heap → (us ++ ds).length = ps.length → BindsTo s fd ⟨us, []⟩ (ps.zip (us ++ ds))
theorem Binds.all {K : PySem.W.Frag} {fd : FuncData} {ps : List Str} (h : ∀ us : List Value, us.length = ps.length → bindArgs fd ⟨us, []⟩ = pure (ps.zip us)) : Binds K fd ps [] := fun s us _ hl => by
  rw [List.append_nil] at hl ⊢
  exact .of_eq (h us hl)
def Passes (CX : CXT) (X : Cx) (E : XK) : Prop := ∀ (pins : List (Addr × Obj)) (σ : St) (H : Hp) (s : Shared) (e : Value) (s' : Shared), Inv X pins σ H s → CX X.stack H s E e s' → X.xe e s'
section
variable {X : Cx} {CX : CXT} {k : Nat} {f C : Addr} {fd : FuncData} {ps : List Str} {sp : Sp} {dvs : List V} {ds : List Value} {E : XK} {x m : Str} {p pos apos : Pos} {e o : Expr} {es : List Expr} {ta : TE} {t : TA}
theorem run_fn {pins : List (Addr × Obj)} {σ : St} {H : Hp} {s : Shared} {Q : VK} {us : List Value} {vs : List V} (F : FnOk X.prog X.w X.K X.mg X.base CX k f fd ps sp) (hr : Room k X.A) (hb : Binds X.K fd ps ds) (hd : Vals dvs ds) (hx : Passes CX X E)
    (I : Inv X pins σ H s) (r : Vals vs us) (h : sp (vs ++ dvs) H Q E) : wpAny (model X.prog X.w) X.A (call (.ref f) us) (EP X pins σ Q) X.xe s := by
  have r2 : Vals (vs ++ dvs) (us ++ ds) := r.append hd
  have hl : (us ++ ds).length = ps.length := by rw [← r2.length]; exact F.len _ _ _ _ h
  refine wpAny_call (codeAny_mono (F.run X.A X.stack s H ⟨us, []⟩ (us ++ ds) (vs ++ dvs) Q E hr I.env0 (hb s us I.kIn hl) r2 h) fun r s' hq => ?_)
  cases r with
  | error e => exact hx pins σ H s e s' I hq
  | ok fl =>
    cases fl with
    | ret u => exact I.after hq
    | next => exact False.elim hq
    | brk => exact False.elim hq
    | cont => exact False.elim hq
theorem pe_call (F : FnOk X.prog X.w X.K X.mg X.base CX k f fd ps sp) (hr : Room k X.A) (hg : Gl X x) (hm : X.mg x = some (.ref f)) (hk : PySem.W.keepIn X.K (.ref f) = true) (hb : Binds X.K fd ps ds) (hd : Vals dvs ds) (hx : Passes CX X E)
    (ha : PA X (e :: es) t) (hdb : (x == ("__debug__" : Str)) = false := by decide) (he : starEach (e :: es) X.env = (false, eval e X.env) :: starEach es X.env := by rfl) (hpl : (backTo pos (starEach es X.env)).any (·.1) = false := by rfl) :
    PE X (.Call (.Name x p) (e :: es) [] pos) (tCall sp dvs E t) := by
  intro pins s σ H Q I h
  refine wpAny_Call_Name_kw (ld_glob I hg hm ?_ hdb)
  refine PySem.W.callWith_K (h₀ := X.base) I.ok.mod.kin hk (thn (ha pos pins s σ H _ I h) fun us s1 ⟨vs, H1, I1, r, q⟩ => ⟨I1.kIn, ?_⟩) he hpl
  exact run_fn F hr hb hd hx I1 r q
structure Mk (K : PySem.W.Frag) (C f : Addr) : Prop where
  makes : PySem.W.makesIn K C = true
  init : PySem.W.findIn K (.ref C) "__init__" = some (some (.ref f))
  fn : PySem.W.isFn K (.ref f) = true
  kp : PySem.W.keepIn K (.ref C) = true
end
def PK (X : Cx) (kws : List Keyword) (t : TA) : Prop :=
  ∀ (pos : Pos) (pins : List (Addr × Obj)) (s : Shared) (σ : St) (H : Hp) (Q : List V → Hp → Prop), Inv X pins σ H s → t σ H Q → wpAny (model X.prog X.w) X.A (evalAll ((backToKw pos (keywordEach kws X.env)).map (·.2))) (AP X pins σ Q) X.xe s
section
variable {X : Cx} {CX : CXT} {k : Nat} {f C : Addr} {fd : FuncData} {ps ks : List Str} {sp : Sp} {E : XK} {x m : Str} {p pos apos kpos : Pos} {e o : Expr} {es : List Expr} {kws : List Keyword} {te ta : TE} {t tk : TA} {nm : Option Str}
structure KBinds (K : PySem.W.Frag) (fd : FuncData) (ps ks : List Str) (g : List Value → List Value → List Value) (gV : List V → List V → List V) : Prop where
  to : ∀ (s : Shared) (us ws : List Value), K.In s.heap → (g us ws).length = ps.length → BindsTo s fd ⟨us, ks.zip ws⟩ (ps.zip (g us ws))
  rel : ∀ {vs : List V} {us : List Value} {zs : List V} {ws : List Value}, Vals vs us → Vals zs ws → Vals (gV vs zs) (g us ws)
def tCallK (sp : Sp) (gV : List V → List V → List V) (E : XK) (t tk : TA) : TE := fun σ H Q => t σ H fun vs H1 => tk σ H1 fun zs H2 => sp (gV vs zs) H2 Q E
variable {g : List Value → List Value → List Value} {gV : List V → List V → List V}
end
structure FnScope (N P : List Str) (sc : Scope) : Prop where
  kind : sc.kind = .function
  co : sc.isCoroutine = false
  gen : sc.isGenerator = false
  nd : N.Nodup
  pre : N.take P.length = P
  par : ∀ x ∈ P, sc.names.lookup x = some .local ∨ sc.names.lookup x = some .cell
  nofree : ∀ y ∈ sc.names, y.2 ≠ .free
theorem bindL_out {kindOf : Str → Option NameKind} {x : Str} : ∀ {binds : List (Str × Value)} {m : Str → Option Value}, (∀ v, (x, v) ∉ binds) → bindL kindOf binds m x = m x
  | [], _, _ => rfl
  | (n, v) :: r, m, h => by
    unfold bindL
    rw [bindL_out fun w hw => h w (List.mem_cons_of_mem _ hw)]
    split
    · have : x ≠ n := by rintro rfl; exact h v List.mem_cons_self
      simp [this]
    · rfl
theorem bindC_out {kindOf : Str → Option NameKind} {x : Str} : ∀ {binds : List (Str × Value)} {m : Str → Option Value}, (∀ v, (x, v) ∉ binds) → bindC kindOf binds m x = m x
  | [], _, _ => rfl
  | (n, v) :: r, m, h => by
    unfold bindC
    rw [bindC_out fun w hw => h w (List.mem_cons_of_mem _ hw)]
    split
    · rfl
    · have : x ≠ n := by rintro rfl; exact h v List.mem_cons_self
      simp [this]
theorem bindL_get {kindOf : Str → Option NameKind} {x : Str} {v : Value} : ∀ {P : List Str} {vs : List Value} {i : Nat} {m : Str → Option Value}, P.Nodup → P[i]? = some x → vs[i]? = some v → kindOf x = some .local →
    bindL kindOf (P.zip vs) m x = some v
  | [], _, _, _, _, h, _, _ => by simp at h
  | _ :: _, [], _, _, _, _, h, _ => by simp at h
  | p :: P, w :: vs, 0, m, nd, h1, h2, hk => by
    simp at h1 h2; subst h1; subst h2
    show bindL kindOf ((p, w) :: P.zip vs) m p = _
    unfold bindL
    rw [bindL_out fun v hv => (List.nodup_cons.mp nd).1 (List.of_mem_zip hv).1, if_pos hk]
    simp
  | p :: P, w :: vs, i + 1, m, nd, h1, h2, hk => by
    show bindL kindOf ((p, w) :: P.zip vs) m x = _
    unfold bindL
    exact bindL_get (i := i) (List.nodup_cons.mp nd).2 (by simpa using h1) (by simpa using h2) hk
theorem bindC_get {kindOf : Str → Option NameKind} {x : Str} {v : Value} : ∀ {P : List Str} {vs : List Value} {i : Nat} {m : Str → Option Value}, P.Nodup → P[i]? = some x → vs[i]? = some v → kindOf x ≠ some .local →
    bindC kindOf (P.zip vs) m x = some v
  | [], _, _, _, _, h, _, _ => by simp at h
  | _ :: _, [], _, _, _, _, h, _ => by simp at h
  | p :: P, w :: vs, 0, m, nd, h1, h2, hk => by
    simp at h1 h2; subst h1; subst h2
    show bindC kindOf ((p, w) :: P.zip vs) m p = _
    unfold bindC
    rw [bindC_out fun v hv => (List.nodup_cons.mp nd).1 (List.of_mem_zip hv).1, if_neg hk]
    simp
  | p :: P, w :: vs, i + 1, m, nd, h1, h2, hk => by
    show bindC kindOf ((p, w) :: P.zip vs) m x = _
    unfold bindC
    exact bindC_get (i := i) (List.nodup_cons.mp nd).2 (by simpa using h1) (by simpa using h2) hk
def start (N : List Str) (vs : List V) : St := vs.map some ++ List.replicate (N.length - vs.length) none
def cxOf (CX : CXT) (P : Program) (w : World) (K : PySem.W.Frag) (mg : Str → Option Value) (base : Heap) (N : List Str) (qual : Str) (scope : Scope) (f : Addr) (cd : Value) (A : Around) (outer : List Env) (s : Shared) (H : Hp) (E : XK) : Cx where
  prog := P
  w := w
  K := K
  mg := mg
  base := base
  A := A.deeper (envOfC qual scope s.heap.objs.size f cd)
  N := N
  s₀ := s
  H₀ := H
  env := envOfC qual scope s.heap.objs.size f cd
  outer := outer
  stack := envOfC qual scope s.heap.objs.size f cd :: outer
  ex := []
  calm := true
  fn := fun _ => true
  pn := []
  xe := fun e s' => wpAny (model P w) (A.deeper (envOfC qual scope s.heap.objs.size f cd)) (leaving (envOfC qual scope s.heap.objs.size f cd) e) (fun _ s'' => CX outer H s E e s'') (fun e' s'' => CX outer H s E e' s'') s'
theorem cell_has {sc : Scope} {n : Nat} {x : Str} (h : sc.names.lookup x = some .cell) : ∃ c, (cellsFrom n sc.names []).lookup x = some c := by
  have q := PySem.W.cellsFrom_some sc.names n [] (.inl h)
  exact Option.isSome_iff_exists.mp q
theorem inv_start {CX : CXT} {P : Program} {w : World} {K : PySem.W.Frag} {mg : Str → Option Value} {base : Heap} {N ps : List Str} {qual : Str} {scope : Scope} {f : Addr} {cd : Value} {A : Around} {outer : List Env} {s s1 : Shared} {H : Hp} {E : XK} {us : List Value} {vs : List V}
    (S : FnScope N ps scope) (hd : A.handled = none) (e0 : Env0 P w K mg base A outer s H) (hl : vs.length = ps.length) (r : Vals vs us)
    (x : InCallC s s.heap.objs.size (bindL (envOfC qual scope s.heap.objs.size f cd).kindOf (ps.zip us) fun _ => none) (cellsFrom (s.heap.objs.size + 1) scope.names []) (bindC (envOfC qual scope s.heap.objs.size f cd).kindOf (ps.zip us) fun _ => none) s1) :
    Inv (cxOf CX P w K mg base N qual scope f cd A outer s H E) [] (start N vs) H s1 := by
  have hpl : ps.length ≤ N.length := by have := congrArg List.length S.pre; rw [List.length_take] at this; omega
  obtain ⟨h1, tk, rfl, hk⟩ := x.done
  have noA : ∀ b : Addr, b ∉ (cxOf CX P w K mg base N qual scope f cd A outer s H E).ex := fun b z => absurd (show b ∈ ([] : List Addr) from z) (by simp)
  refine ⟨⟨e0.mod, S.kind, rfl, rfl, Nat.le_refl _, fun y z c h1 h2 => ?_, fun y hy => ?_, fun y c _ h => ?_, fun _ => hd, Around.frames_deeper e0.frames, .inr ⟨rfl, rfl⟩, fun b z => absurd z (noA b), e0.bs, e0.bsz, fun b _ _ => noA b, fun b z => absurd z (noA b), e0.funs, e0.frf⟩,
    rfl, e0.bare, Un.kept hk, ⟨_, x.toInCall.ns, fun i y v h1 h2 h3 => ?_⟩, fun y c h => ⟨_, x.cell y c h⟩, e0.hok.fresh (Nat.le_refl _), fun y c h => ?_, fun p hp => absurd (show p ∈ ([] : List (Addr × Obj)) from hp) (by simp), e0.hok.kept hk, ?_⟩
  · exact name_of_addr x.apart (PySem.mem_of_lookup h1) (PySem.mem_of_lookup h2)
  · have hy : scope.names.lookup y = some .cell ∨ scope.names.lookup y = some .free := hy
    rcases hy with hy | hy
    · exact cell_has hy
    · exact absurd rfl (S.nofree _ (PySem.mem_of_lookup hy))
  · exact Nat.le_of_lt (x.above y c (PySem.mem_of_lookup h))
  · have hi : i < vs.length := by
      unfold start at h2
      by_cases hi : i < vs.length
      · exact hi
      · rw [List.getElem?_append_right (by simpa using hi)] at h2
        rw [List.getElem?_replicate] at h2
        split at h2 <;> cases h2
    have ha : vs[i]? = some v := by
      unfold start at h2
      rw [List.getElem?_append_left (by simpa using hi), List.getElem?_map] at h2
      cases e : vs[i]? with
      | none => rw [e] at h2; cases h2
      | some a => rw [e] at h2; cases h2; rfl
    obtain ⟨u, hu, rv⟩ := r.get ha
    have hp : ps[i]? = some y := by
      rw [← S.pre, List.getElem?_take_of_lt (by omega)]; exact h1
    have ndP : ps.Nodup := by rw [← S.pre]; exact S.nd.sublist (List.take_sublist _ _)
    refine ⟨u, rv, ?_⟩
    rcases S.par y (List.mem_of_getElem? hp) with k | k
    · exact .inl ⟨k, bindL_get ndP hp hu k⟩
    · obtain ⟨c, e⟩ := cell_has (n := s.heap.objs.size + 1) k
      refine .inr ⟨.inl k, c, e, ?_⟩
      have q := x.cell y c e
      rw [bindC_get ndP hp hu (by show scope.names.lookup y ≠ _; rw [k]; decide)] at q
      exact q
  · exact e0.hok.fresh (Nat.le_of_lt (x.above y c (PySem.mem_of_lookup h)))
  · unfold start
    show _ = N.length
    rw [List.length_append, List.length_map, List.length_replicate]
    omega
theorem fn_of {CX : CXT} {P : Program} {w : World} {K : PySem.W.Frag} {mg : Str → Option Value} {base : Heap} {k : Nat} {f : Addr} {name qual : Str} {params : Arguments} {body : List Stmt} {scope : Scope} {dV kV doc pm cdv ct oc : Value} {an od : Option Addr}
    {osl : Array (Option Value)} {N ps : List Str} {sp : Sp} (lk : K.lookup f = some ⟨oc, od, .func (PySem.W.fnOf name qual params body scope dV kV doc pm an cdv ct), osl⟩) (hcd : PySem.W.codeIn K cdv qual = true) (S : FnScope N ps scope)
    (len : ∀ vs H Q E, sp vs H Q E → vs.length = ps.length)
    (hbody : ∀ (A : Around) (outer : List Env) (s : Shared) (H : Hp) (vs : List V) (Q : VK) (E : XK), Room k (A.deeper (envOfC qual scope s.heap.objs.size f cdv)) → sp vs H Q E →
      ∃ t, PSs (cxOf CX P w K mg base N qual scope f cdv A outer s H E) body t ∧ t { nx := fun _ H' => Q .non H', rt := Q } (start N vs) H) :
    FnOk P w K mg base CX (k + 1) f (PySem.W.fnOf name qual params body scope dV kV doc pm an cdv ct) ps sp := by
  refine ⟨len, fun A outer s H args us vs Q E hr e0 hb r hsp => ?_⟩
  have hl := len _ _ _ _ hsp
  have KX : K.In s.heap := e0.mod.kin.keeps fun b o e => (e0.bs b o e).1
  have lim : s.heap.NoLimit := e0.mod.nolimit.keeps fun b o e => (e0.bs b o e).1
  have hkind : ∀ y ∈ ps.zip us, scope.names.lookup y.1 = some .local ∨ (scope.names.lookup y.1 = some .cell ∧ ((cellsFrom (s.heap.objs.size + 1) scope.names []).lookup y.1).isSome = true) := fun ⟨n, v⟩ hy => by
    rcases S.par n (List.of_mem_zip hy).1 with q | q
    · exact .inl q
    · exact .inr ⟨q, PySem.W.cellsFrom_some _ _ _ (.inl q)⟩
  refine codeAny_call_function hr.depth (KX _ _ lk) rfl S.co S.gen rfl (PySem.W.codeRec_of KX hcd) (hb _ _ _ _ ?_)
  refine wpAny_newFunctionEnv_cells S.kind hkind fun env he s1 x => ?_
  subst he
  refine ⟨lim.keeps x.toInCall.keep, codeAny_func ?_⟩
  obtain ⟨t, ht, hq⟩ := hbody A outer s H vs Q E (hr.deeper _) hsp
  have I : Inv (cxOf CX P w K mg base N qual scope f cdv A outer s H E) [] (start N vs) H s1 := inv_start S hr.hd e0 hl r x
  refine wpAny_mono (ht [] s1 (start N vs) H _ I hq) (fun fl s' hs => ?_) fun e s' hs => hs
  have fin : ∀ {σ' : St} {H' : Hp} {v : V} {u : Value}, Inv (cxOf CX P w K mg base N qual scope f cdv A outer s H E) [] σ' H' s' → RelV v u → Q v H' → CE outer P w H s Q u s' :=
    fun {σ' H' v u} J rv q => ⟨v, H', J.os, J.bare, J.base, J.hok, rv, q⟩
  cases fl with
  | ret u =>
    obtain ⟨v, σ', H', J, rv, q⟩ := hs
    exact fin J rv q
  | next =>
    obtain ⟨σ', H', J, q⟩ := hs
    exact fin (v := V.non) (u := Value.none) J rfl q
  | brk =>
    obtain ⟨_, _, _, q⟩ := hs
    exact False.elim q
  | cont =>
    obtain ⟨_, _, _, q⟩ := hs
    exact False.elim q
end L2
namespace L2
open PySem PySem.Spec PyProof.Rows
section
variable {X : Cx} {x : Str} {p pos : Pos} {e : Expr} {es : List Expr} {t : TA} {id T : String} {r : List V → Hp → VK → Prop}
def tCB (r : List V → Hp → VK → Prop) (t : TA) : TE := fun σ H Q => t σ H fun vs H1 => r vs H1 Q
theorem pe_callB (hc : CallR X (.builtin id) r) (hg : Gl X x) (hm : X.mg x = none) (hv : bootBuiltins x = some (.builtin id)) (ha : PA X (e :: es) t) (hn : x ≠ "__name__" := by decide) (hdb : (x == ("__debug__" : Str)) = false := by decide)
    (he : starEach (e :: es) X.env = (false, eval e X.env) :: starEach es X.env := by rfl) (hpl : (backTo pos (starEach es X.env)).any (·.1) = false := by rfl) : PE X (.Call (.Name x p) (e :: es) [] pos) (tCB r t) := by
  intro pins s σ H Q I h
  refine wpAny_Call_Name_kw (ld_blt I hg hm hv ?_ hn hdb)
  exact PyProof.Rows.callWith_builtin1 (thn (ha pos pins s σ H _ I h) fun us s1 ⟨vs, H1, I1, r1, q1⟩ => hc pins s1 σ H1 vs us Q I1 r1 q1) he hpl
theorem pe_callTy (hc : CallR X (.type T) r) (hg : Gl X x) (hm : X.mg x = none) (hv : bootBuiltins x = some (.type T)) (ha : PA X (e :: es) t) (hn : x ≠ "__name__" := by decide) (hdb : (x == ("__debug__" : Str)) = false := by decide)
    (he : starEach (e :: es) X.env = (false, eval e X.env) :: starEach es X.env := by rfl) (hpl : (backTo pos (starEach es X.env)).any (·.1) = false := by rfl) : PE X (.Call (.Name x p) (e :: es) [] pos) (tCB r t) := by
  intro pins s σ H Q I h
  refine wpAny_Call_Name_kw (ld_blt I hg hm hv ?_ hn hdb)
  exact PyProof.Rows.callWith_type1 (thn (ha pos pins s σ H _ I h) fun us s1 ⟨vs, H1, I1, r1, q1⟩ => hc pins s1 σ H1 vs us Q I1 r1 q1) he hpl
end
end L2
namespace HT
open PySem PyProof.Rows
def lexLt : List Int → List Int → Bool
  | [], [] => false
  | [], _ :: _ => true
  | _ :: _, [] => false
  | x :: xs, y :: ys => if x = y then lexLt xs ys else decide (x < y)
theorem lexLt_cons (x y : Int) (xs ys : List Int) : lexLt (x :: xs) (y :: ys) = if x = y then lexLt xs ys else decide (x < y) := rfl
theorem lexLt_nil_nil : lexLt [] [] = false := rfl
theorem lexLt_nil_cons (y : Int) (ys : List Int) : lexLt [] (y :: ys) = true := rfl
theorem lexLt_cons_nil (x : Int) (xs : List Int) : lexLt (x :: xs) [] = false := rfl
theorem eqAt_int (A : Around) (s : Shared) (a : Int) (t : Tok) (c : Int) (u : Tok) : ∃ e, SeqAt.EqAt A s (.int a t) (.int c u) e ∧ (e = true ↔ a = c) :=
  ⟨(a == c), SeqAt.EqAt.int_int a t c u, by simp⟩
theorem rcLt_int (A : Around) (s : Shared) (a : Int) (t : Tok) (c : Int) (u : Tok) (prog : Program) (w : World) (E : Value → Shared → Prop) (Q : Value → Shared → Prop) (h : Q (.bool (decide (a < c))) s) :
    wpAny (model prog w) A (richCompare .Lt (.int a t) (.int c u)) Q E s :=
  (PyProof.Rows.lt_int h : wpAny (model prog w) A (compareOp .Lt (.int a t) (.int c u)) Q E s)
section
open PySem.SeqAt
open PySem.AutoSeq1 (wpAny_loadPart')
open PySem.MeetsSeq PySem.MeetsSeq2 PySem.MeetsSeq3
theorem tuple_lt_ints (l b : Addr) (items items2 : Array Value) (n n2 : Nat) (dd dd2 : Option Addr) (sl sl2 : Array (Option Value)) (ns ms : List Int) (hi : IntsAre items.toList ns) (hj : IntsAre items2.toList ms) :
    Meets (Builtin.«tuple.__lt__» ⟨[.ref l, .ref b], []⟩)
      (fun _ R s => s.heap.get? l = some { cls := .type "tuple", dict := dd, data := .seq items n, slots := sl } ∧ s.heap.get? b = some { cls := .type "tuple", dict := dd2, data := .seq items2 n2, slots := sl2 } ∧
        R (.ok (.ret (.bool (lexLt ns ms)))) s) :=
  .of_wp fun prog w A R s h => by
    obtain ⟨hp, g, d, tk, os⟩ := s; obtain ⟨hl, hb, h⟩ := h
    have f2 := AutoSeq1.sub_tuple_tuple
    have z1 : items.size = ns.length := by rw [← hi.length]; simp
    have z2 : items2.size = ms.length := by rw [← hj.length]; simp
    wp_walk using wpAny_loadPart' hl, wpAny_loadPart' hb, wpAny_forIn_list _ (fun rest b s' => b.1 = none ∧ s' = ⟨hp, g, d, tk, os⟩ ∧ ∃ (vs ws : List Value) (ns' ms' : List Int), rest = vs.zip ws ∧
      IntsAre vs ns' ∧ IntsAre ws ms' ∧ ns'.length + items2.size = ms'.length + items.size ∧ R (.ok (.ret (.bool (lexLt ns' ms')))) ⟨hp, g, d, tk, os⟩) _
    case turn =>
      rintro ⟨y, x⟩ rest b s' ⟨hb', rfl, vs, ws, ns', ms', hz, hvi, hwi, hlen, hR⟩
      cases hvi with
      | nil => rw [List.zip_nil_left] at hz; cases hz
      | cons a t hvi' =>
        cases hwi with
        | nil => rw [List.zip_nil_right] at hz; cases hz
        | cons c u hwi' =>
          rw [List.zip_cons_cons] at hz
          injection hz with hyx hrest
          injection hyx with hy hx
          subst hy hx
          rw [lexLt_cons] at hR
          simp only [List.length_cons] at hlen
          obtain ⟨e, he, hiff⟩ := eqAt_int A.in1 ⟨hp, g, d, tk, os⟩ a t c u
          refine wpAny_bind (he prog w _ _ ?_)
          cases e with
          | true =>
            rw [if_pos (hiff.mp rfl)] at hR
            wp_walk
            exact ⟨rfl, rfl, _, _, _, _, hrest, hvi', hwi', by omega, hR⟩
          | false =>
            rw [if_neg (fun q => absurd (hiff.mpr q) Bool.false_ne_true)] at hR
            have hri := rcLt_int A.in1 ⟨hp, g, d, tk, os⟩ a t c u prog w
            wp_walk using hri
            exact ⟨_, rfl, by simpa using hR⟩
    case fin =>
      rintro ⟨b1, b2⟩ s' ⟨hb', rfl, vs, ws, ns', ms', hz, hvi, hwi, hlen, hR⟩
      simp only at hb'
      subst hb'
      have hv : lexLt ns' ms' = decide (items.size < items2.size) := by
        cases hvi with
        | nil =>
          cases hwi with
          | nil =>
            simp only [List.length_nil] at hlen
            rw [lexLt_nil_nil]
            exact (decide_eq_false (by omega)).symm
          | cons c u hw =>
            simp only [List.length_nil, List.length_cons] at hlen
            rw [lexLt_nil_cons]
            exact (decide_eq_true (by omega)).symm
        | cons a t hv =>
          cases hwi with
          | nil =>
            simp only [List.length_nil, List.length_cons] at hlen
            rw [lexLt_cons_nil]
            exact (decide_eq_false (by omega)).symm
          | cons c u hw =>
            rw [List.zip_cons_cons] at hz
            cases hz
      rw [hv] at hR
      wp_walk
      exact ⟨_, rfl, by simpa [Builtin.Tuple.tupleCompareSizes] using hR⟩
    case h =>
      exact ⟨rfl, rfl, items.toList, items2.toList, ns, ms, rfl, hi, hj, by omega, h⟩
end
section
variable {prog : Program} {w : World} {A : Around} {E : Value → Shared → Prop} {s : Shared}
theorem lt_tupInts {l b : Addr} {items items2 : Array Value} {ns ms : List Int} {Q : Value → Shared → Prop} (hl : IsTup s.heap l items) (hb : IsTup s.heap b items2) (hi : IntsAre items.toList ns) (hj : IntsAre items2.toList ms)
    (hu : A.units < cLine) (h : Q (.bool (lexLt ns ms)) s) : wpAny (model prog w) A (compareOp .Lt (.ref l) (.ref b)) Q E s := by
  obtain ⟨⟨cls, dd, data, sl⟩, ho, hc, n, hd⟩ := id hl
  obtain ⟨⟨cls2, dd2, data2, sl2⟩, ho2, hc2, n2, hd2⟩ := id hb
  simp only at hc hd hc2 hd2
  subst hc hd hc2 hd2
  exact richCompare_meets_room (op := .Lt) ⟨_, ho, rfl⟩ ⟨_, ho2, rfl⟩ PySem.F.slot_tuple_lt PySem.F.entry_tuple_lt (PySem.F.args_tuple_lt_2 _ _) (tuple_lt_ints l b items items2 n n2 dd dd2 sl sl2 ns ms hi hj)
    ⟨ho, ho2, show Value.bool (lexLt ns ms) ≠ Value.notImplemented ∧ Q (.bool (lexLt ns ms)) s from ⟨(fun x => nomatch x), h⟩⟩ hu
theorem cat_tup {t b : Addr} {vs ws : List Value} {Q : Value → Shared → Prop} (ht : IsTup s.heap t vs.toArray) (hb : IsTup s.heap b ws.toArray) (hv : vs ≠ [])
    (h1 : ws = [] → Q (.ref t) s) (h2 : ws ≠ [] → Q (.ref s.heap.objs.size) { s with heap := s.heap.push { cls := .type "tuple", data := .seq (vs ++ ws).toArray } })
    (hsz : vs.length + ws.length ≤ sizeLine) : wpAny (model prog w) A (binaryOp .Add (.ref t) (.ref b)) Q E s := by
  obtain ⟨⟨cls, dd, data, sl⟩, ho, hc, n, hd⟩ := id ht
  obtain ⟨⟨cls2, dd2, data2, sl2⟩, ho2, hc2, n2, hd2⟩ := id hb
  simp only at hc hd hc2 hd2
  subst hc hd hc2 hd2
  have e : vs.toArray ++ ws.toArray = (vs ++ ws).toArray := by simp
  by_cases hw : ws = []
  · exact concat_meets ⟨_, ho, rfl⟩ ⟨_, ho2, rfl⟩ noFill_tuple_add seq_tuple_add PySem.F.slot_tuple_add PySem.F.entry_tuple_add (PySem.F.args_tuple_add_2 _ _)
      (tuple_addW1 t b vs.toArray ws.toArray n n2 dd dd2 sl sl2 (by simpa using hv) (by simp [hw])) ⟨ho, ho2, h1 hw⟩
  · refine concat_meets ⟨_, ho, rfl⟩ ⟨_, ho2, rfl⟩ noFill_tuple_add seq_tuple_add PySem.F.slot_tuple_add PySem.F.entry_tuple_add (PySem.F.args_tuple_add_2 _ _)
      (tuple_addW2 t b vs.toArray ws.toArray n n2 dd dd2 sl sl2 (by simpa using hv) (by simpa using hw) (by rw [List.size_toArray, List.size_toArray]; exact hsz)) ⟨ho, ho2, ?_⟩
    rw [e]
    exact h2 hw
def sIx (n d : Nat) : Option Int → Nat
  | none => d
  | some v => if v < 0 then (v + (n : Int)).toNat else min v.toNat n
theorem sIx_none (n d : Nat) : sIx n d none = d := rfl
theorem sIx_nat (n d k : Nat) : sIx n d (some (k : Int)) = min k n := by
  show (if (k : Int) < 0 then ((k : Int) + (n : Int)).toNat else min (k : Int).toNat n) = min k n
  rw [if_neg (by omega), Int.toNat_natCast]
theorem sIx_le (n d : Nat) (hd : d ≤ n) (o : Option Int) : sIx n d o ≤ n := by
  cases o with
  | none => exact hd
  | some v =>
    show (if v < 0 then (v + (n : Int)).toNat else min v.toNat n) ≤ n
    by_cases hv : v < 0
    · rw [if_pos hv]; omega
    · rw [if_neg hv]; exact Nat.min_le_right _ _
theorem clip_eq (v : Int) (n d : Nat) : (if v < 0 then max (v + (n : Int)) 0 else min v (n : Int)) = ((sIx n d (some v) : Nat) : Int) := by
  show (if v < 0 then max (v + (n : Int)) 0 else min v (n : Int)) = (((if v < 0 then (v + (n : Int)).toNat else min v.toNat n) : Nat) : Int)
  by_cases hv : v < 0
  · simp only [if_pos hv]; omega
  · simp only [if_neg hv]; omega
theorem adjust_gen (lo hi : Option Int) (n : Nat) : Builtin.Slice.sliceAdjust lo hi 1 (n : Int) = (((sIx n 0 lo : Nat) : Int), ((sIx n n hi : Nat) : Int)) := by
  have h1 : ¬ ((1 : Int) < 0) := by omega
  unfold Builtin.Slice.sliceAdjust
  simp only [h1, if_false]
  refine Prod.ext ?_ ?_
  · cases lo with
    | none => rfl
    | some v => exact clip_eq v n 0
  · cases hi with
    | none => rfl
    | some v => exact clip_eq v n n
theorem places_gen (i j : Nat) : Builtin.Slice.slicePlaces (i : Int) (j : Int) 1 = j - i := by
  unfold Builtin.Slice.slicePlaces
  have h1 : (1 : Int) > 0 := by omega
  simp only [h1, if_true, Int.ediv_one]
  split <;> omega
theorem slicePart_ {v : Value} {o : Option Int} {Q : Option Int → Shared → Prop} (p : IsPart v o) (h : Q o s) : wpAny (model prog w) A (Builtin.Slice.slicePartIndex v) Q E s := by
  cases p with
  | none => exact slicePart_none h
  | int i t => exact slicePart_int h
theorem sliceApplied_gen {sl : Addr} {vl vu : Value} {lo hi : Option Int} {n : Nat} {Q : Int × Int × Nat → Shared → Prop} (hs : s.heap.IsSliceOf sl vl vu .none) (pl : IsPart vl lo) (pu : IsPart vu hi)
    (h : Q (((sIx n 0 lo : Nat) : Int), 1, sIx n n hi - sIx n 0 lo) s) : wpAny (model prog w) A (Builtin.Slice.sliceApplied (.ref sl) (pure (n : Int))) Q E s := by
  obtain ⟨os, hos, hcs, hds⟩ := id hs
  unfold Builtin.Slice.sliceApplied Builtin.Slice.sliceFields
  refine wpAny_bind (wpAny_bind (wpAny_field hos hds (x := vl) rfl (wpAny_bind (wpAny_field hos hds (x := vu) rfl (wpAny_bind (wpAny_field hos hds (x := .none) rfl (wpAny_pure ?_)))))))
  refine wpAny_bind (slicePart_none ?_)
  show wpAny _ _ (if ((1 : Int) == 0) = true then _ else _) _ _ s
  rw [if_neg (by decide)]
  refine wpAny_bind (slicePart_ pl (wpAny_bind (slicePart_ pu (wpAny_bind (wpAny_pure ?_)))))
  show wpAny _ _ (match Builtin.Slice.sliceAdjust lo hi 1 (n : Int) with | (lo, hi) => pure (lo, (1 : Int), Builtin.Slice.slicePlaces lo hi 1)) _ _ s
  rw [adjust_gen lo hi n]
  show wpAny _ _ (pure (((sIx n 0 lo : Nat) : Int), (1 : Int), Builtin.Slice.slicePlaces ((sIx n 0 lo : Nat) : Int) ((sIx n n hi : Nat) : Int) 1)) _ _ s
  rw [places_gen]
  exact wpAny_pure h
theorem pick_gen (xs : Array Value) (i k : Nat) : ((List.range k).filterMap fun (m : Nat) => xs[((i : Int) + (m : Int) * 1).toNat]?).toArray = ((xs.toList.drop i).take k).toArray := by
  have e : (fun (m : Nat) => xs[((i : Int) + (m : Int) * 1).toNat]?) = fun m => xs[i + m]? := by
    funext m
    have : ((i : Int) + (m : Int) * 1).toNat = i + m := by omega
    rw [this]
  rw [e]
  have := pick_run xs i k
  rw [List.filterMap_map] at this
  have e2 : ((fun x => xs[x]?) ∘ fun x => i + x) = fun m => xs[i + m]? := rfl
  rw [e2] at this
  rw [this]
theorem getItem_tuple_cut {t sl : Addr} {items : Array Value} {vl vu : Value} {lo hi : Option Int} {Q : Value → Shared → Prop} (ht : IsTup s.heap t items) (hs : s.heap.IsSliceOf sl vl vu .none) (pl : IsPart vl lo) (pu : IsPart vu hi)
    (hw : ¬ (sIx items.size 0 lo = 0 ∧ sIx items.size items.size hi = items.size))
    (h : Q (.ref s.heap.objs.size) { s with heap := s.heap.push { cls := .type "tuple", data := .seq ((items.toList.drop (sIx items.size 0 lo)).take (sIx items.size items.size hi - sIx items.size 0 lo)).toArray } })
    (hsz : items.size ≤ sizeLine) : wpAny (model prog w) A (getItem (.ref t) (.ref sl)) Q E s := by
  have htake : sizeOk (.seq ((items.toList.drop (sIx items.size 0 lo)).take (sIx items.size items.size hi - sIx items.size 0 lo)).toArray) := by
    show ((items.toList.drop (sIx items.size 0 lo)).take (sIx items.size items.size hi - sIx items.size 0 lo)).toArray.size ≤ sizeLine
    rw [List.size_toArray, List.length_take, List.length_drop, Array.length_toList]
    omega
  have hj : sIx items.size items.size hi ≤ items.size := sIx_le _ _ (Nat.le_refl _) hi
  obtain ⟨os, hos, hcs, hds⟩ := id hs
  have hTs : s.TypeIs (.ref sl) "slice" := ⟨os, hos, hcs⟩
  unfold getItem
  try with_reducible refine wpAny_holding ?_
  first | refine wpAny_bind (wpAny_pure ?_) | skip
  refine wpAny_bind (wpAny_sequenceKey ht.typeIs (by decide) ?_)
  refine wpAny_bind (wpAny_callSpecial?_slot (name := Str.ofString "__getitem__") ht.typeIs PyProof.Rows.slot_tuple_getitem
    (wpAny_call_entry PyProof.Rows.slot_tuple_getitem ht.typeIs entry_tuple_getitem ?_ (args_tuple_getitem _ _)))
  show wpAny _ _ (Builtin.Tuple.tupleItemsOf (.ref t) >>= _) _ _ s
  refine wpAny_bind (tupleItemsOf_ ht ?_)
  refine wpAny_bind (wpAny_typeOf hTs ?_)
  rw [if_pos (by decide)]
  refine wpAny_bind (sliceApplied_gen hs pl pu ?_)
  have hno : ¬ ((((sIx items.size 0 lo : Nat) : Int) == 0 && (1 : Int) == 1 && (sIx items.size items.size hi - sIx items.size 0 lo) == items.size) = true) := by
    intro q
    rw [Bool.and_eq_true, Bool.and_eq_true] at q
    have q1 : ((sIx items.size 0 lo : Nat) : Int) = 0 := eq_of_beq q.1.1
    have q2 : sIx items.size items.size hi - sIx items.size 0 lo = items.size := eq_of_beq q.2
    exact hw ⟨by omega, by omega⟩
  show wpAny _ _ (if (((sIx items.size 0 lo : Nat) : Int) == 0 && (1 : Int) == 1 && (sIx items.size items.size hi - sIx items.size 0 lo) == items.size) = true then _ else _) _ _ s
  rw [if_neg hno, pick_gen]
  first
    | exact wpAny_bind (m := Builtin.Tuple.tupleExact _) (wpAny_newObj_type (wpAny_pure ⟨_, rfl, wpAny_pure h⟩) htake)
    | exact wpAny_bind (m := Builtin.Tuple.tupleExact _) (wpAny_newObj_type (wpAny_bind (wpAny_pure (wpAny_pure ⟨_, rfl, wpAny_pure h⟩))) htake)
    | exact wpAny_bind (wpAny_bind (m := Builtin.Tuple.tupleExact _) (wpAny_newObj_type (wpAny_pure (wpAny_pure ⟨_, rfl, wpAny_pure h⟩)) htake))
    | exact wpAny_bind (wpAny_bind (m := Builtin.Tuple.tupleExact _) (wpAny_newObj_type (wpAny_pure ⟨_, rfl, wpAny_pure h⟩) htake))
end
end HT
namespace L2
open PySem PySem.Spec PyProof.Rows
abbrev TO := St → Hp → (Option Int → Hp → Prop) → Prop
def PO (X : Cx) (e : Option Expr) (t : TO) : Prop :=
  ∀ (pins : List (Addr × Obj)) (s : Shared) (σ : St) (H : Hp) (Q : Option Int → Hp → Prop), Inv X pins σ H s → t σ H Q →
    wpAny (model X.prog X.w) X.A (evalPart e X.env) (fun u s' => ∃ o H', Inv X pins σ H' s' ∧ IsPart u o ∧ Q o H') X.xe s
def tNoPart : TO := fun _ H Q => Q none H
def tPart (t : TE) : TO := fun σ H Q => t σ H fun x H1 => ∃ i, x = .int i ∧ Q (some i) H1
theorem intsAre_of {ns : List Int} : ∀ {us : List Value}, Vals (ns.map V.int) us → IntsAre us ns := by
  induction ns with
  | nil => intro us r; rw [List.map_nil] at r; cases r; exact .nil
  | cons n ns ih =>
    intro us r
    rw [List.map_cons] at r
    cases r with
    | cons r1 r2 =>
      obtain ⟨t, e⟩ := r1
      subst e
      exact .cons n t (ih r2)
section
variable {X : Cx} {e : Expr} {te : TE} {lo hi : Option Expr} {tl th : TO} {pos p2 : Pos}
theorem po_none : PO X none tNoPart := by
  intro pins s σ H Q I h
  rw [evalPart_none]
  exact wpAny_pure ⟨none, H, I, .none, h⟩
theorem po_some (h : PE X e te) : PO X (some e) (tPart te) := by
  intro pins s σ H Q I hw
  rw [evalPart_some]
  refine thn (h pins s σ H _ I hw) fun u s1 ⟨x, H1, I1, r1, q1⟩ => ?_
  obtain ⟨i, rfl, q⟩ := q1
  obtain ⟨t, rfl⟩ := r1
  exact ⟨some i, H1, I1, .int i t, q⟩
def SlR (X : Cx) (r : V → Option Int → Option Int → Hp → VK → Prop) : Prop :=
  ∀ (pins : List (Addr × Obj)) (s : Shared) (σ : St) (H : Hp) (x : V) (v vl vu : Value) (lo hi : Option Int) (sl : Addr) (Q : VK), Inv X pins σ H s → RelV x v → s.heap.IsSliceOf sl vl vu .none → IsPart vl lo → IsPart vu hi → r x lo hi H Q →
    ∃ T id, typeLookup (.type T) "__getitem__" = pure (some (.builtin id)) ∧ s.TypeIs v T ∧ wpAny (model X.prog X.w) X.A (getItem v (.ref sl)) (EP X pins σ Q) X.xe s
theorem SlR.or {r r' : V → Option Int → Option Int → Hp → VK → Prop} (h : SlR X r) (h' : SlR X r') : SlR X (fun x lo hi H Q => r x lo hi H Q ∨ r' x lo hi H Q) := by
  intro pins s σ H x v vl vu lo hi sl Q I rx hs pl pu q
  rcases q with q | q
  · exact h pins s σ H x v vl vu lo hi sl Q I rx hs pl pu q
  · exact h' pins s σ H x v vl vu lo hi sl Q I rx hs pl pu q
def tSl (r : V → Option Int → Option Int → Hp → VK → Prop) (te : TE) (tl th : TO) : TE := fun σ H Q => te σ H fun x H1 => tl σ H1 fun l H2 => th σ H2 fun u H3 => r x l u H3 Q
theorem pe_slice {r : V → Option Int → Option Int → Hp → VK → Prop} (hr : SlR X r) (he : PE X e te) (hl : PO X lo tl) (hu : PO X hi th) : PE X (.Subscript e (.Slice lo hi none p2) pos) (tSl r te tl th) := by
  intro pins s σ H Q I h
  refine Subscript_ (thn (he pins s σ H _ I h) fun v s1 ⟨x, H1, I1, r1, q1⟩ => ?_)
  refine wpAny_Slice (thn (hl pins s1 σ H1 _ I1 q1) fun vl s2 ⟨l, H2, I2, pl, q2⟩ => thn (hu pins s2 σ H2 _ I2 q2) fun vu s3 ⟨u, H3, I3, pu, q3⟩ => ?_)
  rw [evalPart_none]
  refine wpAny_pure ?_
  have I4 : Inv X pins σ H3 { s3 with heap := s3.heap.push { cls := .type "slice", data := .fields #[vl, vu, .none] } } := I3.kept (t' := s3.toks) fun b ob q => Heap.get?_push_of_some _ q
  obtain ⟨T, id, hT, ht, hg⟩ := hr pins { s3 with heap := s3.heap.push { cls := .type "slice", data := .fields #[vl, vu, .none] } } σ H3 x v vl vu l u s3.heap.objs.size Q I4 r1 (Heap.IsSliceOf.new ..) pl pu q3
  show wpAny (model X.prog X.w) X.A (subscriptTail e (.Slice lo hi none p2) v (.ref s3.heap.objs.size)) (EP X pins σ Q) X.xe { s3 with heap := s3.heap.push { cls := .type "slice", data := .fields #[vl, vu, .none] } }
  exact tail_any (ops := [.ref s3.heap.objs.size, v]) ht hT hg (by with_unfolding_all rfl)
def cutV (xs : List V) (lo hi : Option Int) : List V := (xs.drop (HT.sIx xs.length 0 lo)).take (HT.sIx xs.length xs.length hi - HT.sIx xs.length 0 lo)
theorem cutV_length (xs : List V) (lo hi : Option Int) : (cutV xs lo hi).length ≤ xs.length := by
  unfold cutV
  rw [List.length_take, List.length_drop]
  omega
def rSlT (K : PySem.W.Frag) : V → Option Int → Option Int → Hp → VK → Prop := fun x lo hi H Q => ∃ a xs, x = .ref a ∧ SqT K H a xs ∧
  ¬ (HT.sIx xs.length 0 lo = 0 ∧ HT.sIx xs.length xs.length hi = xs.length) ∧ ∀ p, H p = none → Q (.ref p) (upd H p (.tup (cutV xs lo hi)))
theorem sl_tup : SlR X (rSlT X.K) := by
  intro pins s σ H x v vl vu lo hi sl Q I rx hs pl pu h
  obtain ⟨a, xs, rfl, hx, hw, q⟩ := h
  cases rx
  obtain ⟨its, r, ht, hz⟩ := I.tuple hx
  have hlen : its.toArray.size = xs.length := by rw [List.size_toArray]; exact r.length.symm
  refine ⟨"tuple", _, PyProof.Rows.slot_tuple_getitem.lookup, ht.typeIs, ?_⟩
  refine HT.getItem_tuple_cut ht hs pl pu (by rw [hlen]; exact hw) ?_ (by rw [hlen]; exact hz)
  rw [hlen]
  refine ⟨.ref s.heap.objs.size, _, I.laid (t' := s.toks) (o := .tup (cutV xs lo hi)) (fun b ob q => Heap.get?_push_of_some _ q) (Nat.le_refl _) ?_, rfl, q _ (I.hok.fresh (Nat.le_refl _))⟩
  exact ⟨Nat.le_trans (cutV_length xs lo hi) hz, _, (r.drop (HT.sIx xs.length 0 lo)).take (HT.sIx xs.length xs.length hi - HT.sIx xs.length 0 lo), IsTup.new _ _⟩
def rLtT (K : PySem.W.Frag) : R2 := fun x y H Q => ∃ a b ns ms, x = .ref a ∧ y = .ref b ∧ SqT K H a (ns.map V.int) ∧ SqT K H b (ms.map V.int) ∧ Q (.bl (HT.lexLt ns ms)) H
theorem op_ltT (hu : X.A.units < cLine) : OpR X (compareOp .Lt) (rLtT X.K) := by
  intro pins s σ H x y v u Q I rx ry h
  obtain ⟨a, b, ns, ms, rfl, rfl, ha, hb, q⟩ := h
  cases rx
  cases ry
  obtain ⟨its, r1, p1, _⟩ := I.tuple ha
  obtain ⟨its2, r2, p2, _⟩ := I.tuple hb
  have i1 : IntsAre its.toArray.toList ns := intsAre_of r1
  have i2 : IntsAre its2.toArray.toList ms := intsAre_of r2
  exact HT.lt_tupInts p1 p2 i1 i2 hu ⟨.bl (HT.lexLt ns ms), H, I, rfl, q⟩
def rCatT (K : PySem.W.Frag) : R2 := fun x y H Q => ∃ a b xs ys, x = .ref a ∧ y = .ref b ∧ SqT K H a xs ∧ SqT K H b ys ∧ xs ≠ [] ∧ xs.length + ys.length ≤ sizeLine ∧
  (ys = [] → Q (.ref a) H) ∧ (ys ≠ [] → ∀ p, H p = none → Q (.ref p) (upd H p (.tup (xs ++ ys))))
theorem Vals.nil_iff {xs : List V} {us : List Value} (r : Vals xs us) : us = [] ↔ xs = [] := by
  cases r with
  | nil => simp
  | cons _ _ => simp
theorem op_catT : OpR X (binaryOp .Add) (rCatT X.K) := by
  intro pins s σ H x y v u Q I rx ry h
  obtain ⟨a, b, xs, ys, rfl, rfl, ha, hb, hx, hz, q1, q2⟩ := h
  cases rx
  cases ry
  obtain ⟨its, r1, p1, _⟩ := I.tuple ha
  obtain ⟨its2, r2, p2, _⟩ := I.tuple hb
  refine HT.cat_tup p1 p2 (fun z => hx (r1.nil_iff.mp z)) (fun z => ⟨.ref a, H, I, rfl, q1 (r2.nil_iff.mp z)⟩) (fun z => ?_) (by rw [← r1.length, ← r2.length]; exact hz)
  refine ⟨.ref s.heap.objs.size, _, I.laid (t' := s.toks) (o := .tup (xs ++ ys)) (fun b ob q => Heap.get?_push_of_some _ q) (Nat.le_refl _) ?_, rfl, q2 (fun w => z (r2.nil_iff.mpr w)) _ (I.hok.fresh (Nat.le_refl _))⟩
  exact ⟨by rw [List.length_append]; exact hz, _, r1.append r2, IsTup.new _ _⟩
end
end L2
namespace L2
open PySem PySem.Spec PyProof.Rows
def ixN (n : Nat) (i : Int) : Option Nat := if 0 ≤ i then (if i < n then some i.toNat else none) else if -(n : Int) ≤ i then some (i + n).toNat else none
def atI {α : Type} (xs : List α) (i : Int) : Option α := (ixN xs.length i).bind fun j => xs[j]?
theorem ixN_seq {n : Nat} {i : Int} {j : Nat} (h : ixN n i = some j) : seqIndex? i n = some j ∧ j < n ∧ -(n : Int) ≤ i ∧ i < n := by
  unfold ixN at h
  by_cases h0 : 0 ≤ i
  · rw [if_pos h0] at h
    by_cases h1 : i < n
    · rw [if_pos h1] at h
      have e : i.toNat = j := Option.some.inj h
      exact ⟨by rw [seqIndex_of h0 h1, e], by omega, by omega, h1⟩
    · rw [if_neg h1] at h; cases h
  · rw [if_neg h0] at h
    by_cases h1 : -(n : Int) ≤ i
    · rw [if_pos h1] at h
      have e : (i + n).toNat = j := Option.some.inj h
      exact ⟨by rw [seqIndex_neg (by omega) h1, e], by omega, h1, by omega⟩
    · rw [if_neg h1] at h; cases h
theorem atI_get {α : Type} {xs : List α} {i : Int} {v : α} (h : atI xs i = some v) : ∃ j, seqIndex? i xs.length = some j ∧ xs[j]? = some v ∧ j < xs.length ∧ -(xs.length : Int) ≤ i ∧ i < xs.length := by
  unfold atI at h
  cases e : ixN xs.length i with
  | none => rw [e] at h; cases h
  | some j =>
    rw [e] at h
    obtain ⟨h1, h2, h3, h4⟩ := ixN_seq e
    exact ⟨j, h1, h, h2, h3, h4⟩
def PlainIx (b : Expr) : Prop := ∀ o i, subscripted b false o i = operate [o, i] (getItem o i)
def IxR (X : Cx) (r : R2) : Prop :=
  ∀ (value slice : Expr) (pins : List (Addr × Obj)) (s : Shared) (σ : St) (H : Hp) (x y : V) (v u : Value) (Q : VK), Inv X pins σ H s → RelV x v → RelV y u → r x y H Q →
    subscripted slice false v u = operate [v, u] (getItem v u) → wpAny (model X.prog X.w) X.A (subscriptTail value slice v u) (EP X pins σ Q) X.xe s
def MtR (X : Cx) (id : String) (r : V → List V → Hp → VK → Prop) : Prop :=
  ∀ (pins : List (Addr × Obj)) (s : Shared) (σ : St) (H : Hp) (x : V) (xs : List V) (v : Value) (us : List Value) (Q : VK), Inv X pins σ H s → RelV x v → Vals xs us → r x xs H Q →
    wpAny (model X.prog X.w) X.A (call (.builtin id) (v :: us)) (EP X pins σ Q) X.xe s
section
variable {X : Cx} {a b : Expr} {ta tb : TE} {pos : Pos}
theorem IxR.or {r r' : R2} (h : IxR X r) (h' : IxR X r') : IxR X (fun x y H Q => r x y H Q ∨ r' x y H Q) := by
  intro value slice pins s σ H x y v u Q I rx ry q hs
  rcases q with q | q
  · exact h value slice pins s σ H x y v u Q I rx ry q hs
  · exact h' value slice pins s σ H x y v u Q I rx ry q hs
theorem MtR.or {id : String} {r r' : V → List V → Hp → VK → Prop} (h : MtR X id r) (h' : MtR X id r') : MtR X id (fun x xs H Q => r x xs H Q ∨ r' x xs H Q) := by
  intro pins s σ H x xs v us Q I rx rs q
  rcases q with q | q
  · exact h pins s σ H x xs v us Q I rx rs q
  · exact h' pins s σ H x xs v us Q I rx rs q
theorem pe_ix {r : R2} (hr : IxR X r) (ha : PE X a ta) (hb : PE X b tb) (hs : PlainIx b) : PE X (.Subscript a b pos) (tOp r ta tb) := by
  intro pins s σ H Q I h
  exact Subscript_ (binT ha hb I h fun v u s2 x y H2 I2 rx ry q => hr a b pins s2 σ H2 x y v u Q I2 rx ry q (hs _ _))
def rIxL (K : PySem.W.Frag) : R2 := fun x y H Q => ∃ p xs i v, x = .ref p ∧ y = .int i ∧ SqL K H p xs ∧ atI xs i = some v ∧ Q v H
def rIxT (K : PySem.W.Frag) : R2 := fun x y H Q => ∃ p xs i v, x = .ref p ∧ y = .int i ∧ SqT K H p xs ∧ atI xs i = some v ∧ Q v H
def rIxS : R2 := fun x y H Q => ∃ z i c, x = .str z ∧ y = .int i ∧ z.length ≤ sizeLine ∧ atI z.cps.toList i = some c ∧ Q (.str ⟨#[c]⟩) H
theorem ix_list : IxR X (rIxL X.K) := by
  intro value slice pins s σ H x y v u Q I rx ry h hs
  obtain ⟨p, xs, i, z, rfl, rfl, hq, he, q⟩ := h
  cases rx
  obtain ⟨t, rfl⟩ := ry
  obtain ⟨its, r, pl, hz⟩ := I.list hq
  obtain ⟨j, h1, h2, h3, h4, h5⟩ := atI_get he
  obtain ⟨w, ew, rw'⟩ := r.get h2
  have hl := r.length
  have hn := line63
  have fin : EP X pins σ Q w s := ⟨z, H, I, rw', q⟩
  by_cases h0 : 0 ≤ i
  · have hj : i.toNat = j := by
      rw [seqIndex_of h0 h5] at h1
      exact Option.some.inj h1
    exact item_listR pl.isList h0 (by omega) (by rw [hj]; simpa using ew) fin hs
  · have hj : (i + (its.toArray.size : Int)).toNat = j := by
      rw [seqIndex_neg (by omega) h4] at h1
      rw [List.size_toArray, ← hl]
      exact Option.some.inj h1
    exact subscriptTail_builtinR (x := w) pl.isList.typeIs slot_list_getitem.lookup
      (wpAny_getItem_list_neg (Q := fun r s' => r = w ∧ EP X pins σ Q r s') pl.isList (by omega) (by rw [List.size_toArray] <;> omega) (by omega) (by rw [hj]; simpa using ew) ⟨rfl, fin⟩) hs
theorem ix_tup : IxR X (rIxT X.K) := by
  intro value slice pins s σ H x y v u Q I rx ry h hs
  obtain ⟨p, xs, i, z, rfl, rfl, hq, he, q⟩ := h
  cases rx
  obtain ⟨t, rfl⟩ := ry
  obtain ⟨its, r, pl, hz⟩ := I.tuple hq
  obtain ⟨j, h1, h2, h3, h4, h5⟩ := atI_get he
  obtain ⟨w, ew, rw'⟩ := r.get h2
  have hl := r.length
  have hn := line63
  have fin : EP X pins σ Q w s := ⟨z, H, I, rw', q⟩
  exact subscriptTail_builtinR (x := w) pl.typeIs slot_tuple_getitem.lookup
    (getItem_tuple (j := j) (Q := fun r s' => r = w ∧ EP X pins σ Q r s') pl (by omega) (by omega) (by rw [List.size_toArray, ← hl]; exact h1) (by simpa using ew) ⟨rfl, fin⟩) hs
theorem ix_str : IxR X rIxS := by
  intro value slice pins s σ H x y v u Q I rx ry h hs
  obtain ⟨z, i, c, rfl, rfl, hz, he, q⟩ := h
  obtain ⟨t, rfl⟩ := rx
  obtain ⟨t', rfl⟩ := ry
  obtain ⟨j, h1, h2, h3, h4, h5⟩ := atI_get he
  have hl : z.cps.toList.length = z.length := by simp [Str.length]
  rw [hl] at h1 h4 h5
  have hn := line63
  exact tail_any (typeIs_str s z t) slot_str_getitem.lookup (getItem_str (c := c) (by
    have e1 : decide (i < -(2 ^ 63 : Int)) = false := decide_eq_false (by omega)
    have e2 : decide (i ≥ 2 ^ 63) = false := decide_eq_false (by omega)
    rw [e1, e2, Bool.or_false]) (by rw [h1]; simpa using h2) ⟨.str ⟨#[c]⟩, H, I.tok _, ⟨_, rfl⟩, q⟩) hs
def rIx (K : PySem.W.Frag) : R2 := fun x y H Q => rIxL K x y H Q ∨ rIxT K x y H Q ∨ rIxS x y H Q
theorem ix_seq : IxR X (rIx X.K) := ix_list.or (ix_tup.or ix_str)
theorem mapSeq_set (its : List Value) (n j : Nat) (u : Value) : Obj.mapSeq (·.setIfInBounds j u) { cls := .type "list", data := .seq its.toArray n } = { cls := .type "list", data := .seq (its.set j u).toArray n } := by
  simp [Obj.mapSeq]
theorem Inv.lst {pins : List (Addr × Obj)} {σ : St} {H : Hp} {s : Shared} {p : Addr} {xs : List V} (I : Inv X pins σ H s) (h : H p = some (.lst xs)) :
    ∃ (its : List Value) (n : Nat), Vals xs its ∧ s.heap.get? p = some { cls := .type "list", data := .seq its.toArray n } ∧ xs.length ≤ sizeLine := by
  obtain ⟨z, its, n, r, e⟩ := I.hok p _ h
  exact ⟨its, n, r, e, z⟩
theorem Inv.lstUpd {pins : List (Addr × Obj)} {σ : St} {H : Hp} {s : Shared} {p : Addr} {xs ys : List V} {its its' : List Value} {n n' : Nat} {f : Obj → Obj} (I : Inv X pins σ H s) (h : H p = some (.lst xs))
    (ho : s.heap.get? p = some { cls := .type "list", data := .seq its.toArray n }) (hf : f { cls := .type "list", data := .seq its.toArray n } = { cls := .type "list", data := .seq its'.toArray n' }) (r : Vals ys its') (hz : ys.length ≤ sizeLine) (t : Nat) :
    Inv X pins σ (upd H p (.lst ys)) { s with heap := s.heap.update p f, toks := t } := by
  have e : (s.heap.update p f).get? p = some { cls := .type "list", data := .seq its'.toArray n' } := by
    rw [Heap.get?_update_self f ho (by rw [hf] <;> rfl), hf]
  refine I.write (x := p) (e := p) (by rw [h]; trivial) (.inl rfl) (fun b u hb q => (Heap.get?_update_other _ _ (Ne.symm hb)).trans q) ⟨_, e⟩ ?_
  exact ⟨hz, its', n', r, e⟩
def rSetL : V → V → V → Hp → (Hp → Prop) → Prop := fun o i v H Q => ∃ p xs k j, o = .ref p ∧ i = .int k ∧ H p = some (.lst xs) ∧ ixN xs.length k = some j ∧ Q (upd H p (.lst (xs.set j v)))
theorem set_list : PSet X rSetL := by
  intro pins s σ H o i v ov iv u Q I ro ri rv h
  obtain ⟨p, xs, k, j, rfl, rfl, hp, hj, q⟩ := h
  cases ro
  obtain ⟨t, rfl⟩ := ri
  obtain ⟨its, n, r, ho, hz⟩ := I.lst hp
  obtain ⟨h1, h2, h3, h4⟩ := ixN_seq hj
  have hl := r.length
  have hn := line63
  have I' : Inv X pins σ (upd H p (.lst (xs.set j v))) { s with heap := s.heap.update p (Obj.mapSeq (·.setIfInBounds j u)) } :=
    I.lstUpd hp ho (mapSeq_set its n j u) (r.set rv j) (by rw [List.length_set]; exact hz) s.toks
  by_cases h0 : 0 ≤ k
  · have hk : k.toNat = j := by
      rw [seqIndex_of h0 h4] at h1
      exact Option.some.inj h1
    exact PySem.W.ki_setAt ho h0 (by omega) (by rw [List.size_toArray, ← hl]; exact h4) (by rw [hk]; exact ⟨_, I', q⟩)
  · have hk : (k + (its.toArray.size : Int)).toNat = j := by
      rw [seqIndex_neg (by omega) h3] at h1
      rw [List.size_toArray, ← hl]
      exact Option.some.inj h1
    exact PySem.W.ki_setBack ho (by omega) (by rw [List.size_toArray, ← hl]; exact h3) (by omega) (by rw [hk]; exact ⟨_, I', q⟩)
theorem slice_bounds (lo hi : Option Int) (n : Nat) : (sliceBounds lo hi none n).1 = ((HT.sIx n 0 lo : Nat) : Int) ∧ (sliceBounds lo hi none n).2.1 = ((HT.sIx n n hi : Nat) : Int) ∧ (sliceBounds lo hi none n).2.2 = 1 := by
  refine ⟨?_, ?_, rfl⟩
  · cases lo with
    | none => simp [sliceBounds, HT.sIx]
    | some i =>
      simp only [sliceBounds, HT.sIx, Option.getD_none, show (1 : Int) > 0 by decide, if_true]
      by_cases h : i < 0
      · simp only [h, if_true] <;> omega
      · simp only [h, if_false] <;> omega
  · cases hi with
    | none => simp [sliceBounds, HT.sIx]
    | some i =>
      simp only [sliceBounds, HT.sIx, Option.getD_none, show (1 : Int) > 0 by decide, if_true]
      by_cases h : i < 0
      · simp only [h, if_true] <;> omega
      · simp only [h, if_false] <;> omega
theorem slicePick_cut (its : List Value) (lo hi : Option Int) : slicePick its.toArray lo hi none = ((its.drop (HT.sIx its.length 0 lo)).take (HT.sIx its.length its.length hi - HT.sIx its.length 0 lo)).toArray := by
  obtain ⟨h1, h2, h3⟩ := slice_bounds lo hi its.toArray.size
  unfold slicePick
  rw [h1, h2, h3]
  simp only [sliceRange_one, pick_run, List.size_toArray] <;> rfl
def rSlL (K : PySem.W.Frag) : V → Option Int → Option Int → Hp → VK → Prop := fun x lo hi H Q => ∃ a xs, x = .ref a ∧ SqL K H a xs ∧ ∀ p, H p = none → Q (.ref p) (upd H p (.lst (cutV xs lo hi)))
theorem sl_list : SlR X (rSlL X.K) := by
  intro pins s σ H x v vl vu lo hi sl Q I rx hs pl pu h
  obtain ⟨a, xs, rfl, hx, q⟩ := h
  cases rx
  obtain ⟨its, r, ht, hz⟩ := I.list hx
  have hlen := r.length
  refine ⟨"list", _, slot_list_getitem.lookup, ht.isList.typeIs, ?_⟩
  refine wpAny_getItem_list_slice ht.isList hs pl pu .none (by simp) ?_ (by rw [List.size_toArray] <;> omega)
  rw [slicePick_cut, ← hlen]
  refine ⟨.ref s.heap.objs.size, _, I.laid (t' := s.toks) (o := .lst (cutV xs lo hi)) (fun b ob q => Heap.get?_push_of_some _ q) (Nat.le_refl _) ?_, rfl, q _ (I.hok.fresh (Nat.le_refl _))⟩
  exact ⟨Nat.le_trans (cutV_length xs lo hi) hz, _, 0, (r.drop (HT.sIx xs.length 0 lo)).take (HT.sIx xs.length xs.length hi - HT.sIx xs.length 0 lo), Heap.get?_push_size _ rfl⟩
def flatV : V → Bool
  | .non => true
  | .bl _ => true
  | .int _ => true
  | .str _ => true
  | _ => false
def eqV : V → V → Bool
  | .non, .non => true
  | .bl a, .bl b => a == b
  | .bl a, .int b => (if a then 1 else 0) == b
  | .int a, .bl b => a == (if b then 1 else 0)
  | .int a, .int b => a == b
  | .str a, .str b => a == b
  | _, _ => false
def eqU (x : V) (u : Value) : Bool := match u with
  | .none => eqV .non x
  | .bool b => eqV (.bl b) x
  | .int i _ => eqV (.int i) x
  | .str z _ => eqV (.str z) x
  | _ => false
def inV (x : V) (xs : List V) : Bool := xs.any fun y => eqV y x
def rIn (K : PySem.W.Frag) (neg : Bool) : R2 := fun x y H Q => ∃ p xs, y = .ref p ∧ (SqL K H p xs ∨ SqT K H p xs) ∧ flatV x = true ∧ xs.all flatV = true ∧ Q (.bl (if neg then !inV x xs else inV x xs)) H
theorem call_len_seq : CallR X (.builtin "len") (fun xs H Q => ∃ p ys, xs = [.ref p] ∧ (SqL X.K H p ys ∨ SqT X.K H p ys) ∧ Q (.int ys.length) H) := by
  intro pins s σ H xs us Q I r h
  obtain ⟨p, ys, rfl, hq, q⟩ := h
  obtain ⟨u, rfl, rx⟩ := vals1 r
  cases rx
  have hn := line63
  rcases hq with hq | hq
  · obtain ⟨its, r', pl, hz⟩ := I.list hq
    have hlen := r'.length
    exact Calls.call_len_list pl.isList (by simp only [List.size_toArray] <;> omega) ⟨.int ys.length, H, I.tok _, ⟨s.toks + 1, by rw [List.size_toArray, hlen]⟩, q⟩
  · obtain ⟨its, r', pl, hz⟩ := I.tuple hq
    have hlen := r'.length
    exact len_tuple pl (by simp only [List.size_toArray] <;> omega) ⟨.int ys.length, H, I.tok _, ⟨s.toks + 1, by rw [List.size_toArray, hlen]⟩, q⟩
theorem CallR.or {f : Value} {r r' : List V → Hp → VK → Prop} (h : CallR X f r) (h' : CallR X f r') : CallR X f (fun xs H Q => r xs H Q ∨ r' xs H Q) := by
  intro pins s σ H xs us Q I rs q
  rcases q with q | q
  · exact h pins s σ H xs us Q I rs q
  · exact h' pins s σ H xs us Q I rs q
theorem call_list_of : CallR X (.type "list") (fun xs H Q => ∃ p ys, xs = [.ref p] ∧ (SqL X.K H p ys ∨ SqT X.K H p ys) ∧ ∀ l, H l = none → Q (.ref l) (upd H l (.lst ys))) := by
  intro pins s σ H xs us Q I r h
  obtain ⟨p, ys, rfl, hq, q⟩ := h
  obtain ⟨u, rfl, rx⟩ := vals1 r
  cases rx
  have fin : ∀ (its : List Value), Vals ys its → ys.length ≤ sizeLine → ∀ (h' : Heap) (c' : Nat), (∀ b o', s.heap.get? b = some o' → h'.get? b = some o') →
      h'.get? s.heap.objs.size = some { cls := .type "list", dict := none, data := .seq its.toArray c', slots := #[] } → EP X pins σ Q (.ref s.heap.objs.size) { s with heap := h' } := fun its r' hz h' c' kp e =>
    ⟨.ref s.heap.objs.size, _, I.laid (t' := s.toks) kp (Nat.le_refl _) (show ObjOk X.prog X.w _ h' _ (.lst ys) from ⟨hz, its, c', r', e⟩), rfl, q _ (I.hok.fresh (Nat.le_refl _))⟩
  rcases hq with hq | hq
  · obtain ⟨its, r', pl, hz⟩ := I.list hq
    have hlen := r'.length
    obtain ⟨o, ho, hc, n, hd⟩ := pl.isList
    exact call_list_seq p (.inl rfl) ho hc hd (fun h' c' kp e => fin its r' hz h' c' kp e) (by simp only [List.size_toArray] <;> omega)
  · obtain ⟨its, r', pl, hz⟩ := I.tuple hq
    have hlen := r'.length
    obtain ⟨o, ho, hc, n, hd⟩ := pl
    exact call_list_seq p (.inr rfl) ho hc hd (fun h' c' kp e => fin its r' hz h' c' kp e) (by simp only [List.size_toArray] <;> omega)
theorem call_tuple_of : CallR X (.type "tuple") (fun xs H Q => ∃ p ys, xs = [.ref p] ∧ ((SqL X.K H p ys ∧ ∀ l, H l = none → Q (.ref l) (upd H l (.tup ys))) ∨ (SqT X.K H p ys ∧ Q (.ref p) H))) := by
  intro pins s σ H xs us Q I r h
  obtain ⟨p, ys, rfl, h⟩ := h
  obtain ⟨u, rfl, rx⟩ := vals1 r
  cases rx
  rcases h with ⟨hq, q⟩ | ⟨hq, q⟩
  · obtain ⟨its, r', pl, hz⟩ := I.list hq
    have hlen := r'.length
    refine call_tuple_list pl.isList (fun h' kp => ?_) (by simp only [List.size_toArray] <;> omega)
    have I1 : Inv X pins σ H { s with heap := h' } := I.kept (t' := s.toks) kp
    have I2 : Inv X pins σ (upd H h'.objs.size (.tup ys)) { s with heap := h'.push { cls := .type "tuple", data := .seq its.toArray } } :=
      I1.laid (t' := s.toks) (fun b o e => Heap.get?_push_of_some _ e) (Nat.le_refl _) (show ObjOk X.prog X.w _ _ _ (.tup ys) from ⟨hz, its, r', IsTup.new _ _⟩)
    exact ⟨.ref h'.objs.size, _, I2, rfl, q _ (I1.hok.fresh (Nat.le_refl _))⟩
  · obtain ⟨its, r', pl, hz⟩ := I.tuple hq
    exact call_tuple_same pl ⟨.ref p, H, I, rfl, q⟩
def tyV (K : PySem.W.Frag) (T : String) (x : V) (H : Hp) : Prop := match x with
  | .str _ => T = "str"
  | .int _ => T = "int"
  | .ref p => (T = "list" ∧ ∃ xs, SqL K H p xs) ∨ (T = "tuple" ∧ ∃ o, K.lookup p = some o ∧ o.cls = .type "tuple" ∧ o.dict = none) ∨
      (T = "dict" ∧ ((∃ kvs, H p = some (.dK kvs)) ∨ ∃ kvs, H p = some (.dT kvs))) ∨ (T = "set" ∧ ∃ S n, H p = some (.set S n))
  | _ => False
theorem tyV_is {pins : List (Addr × Obj)} {σ : St} {H : Hp} {s : Shared} {T : String} {x : V} {v : Value} (I : Inv X pins σ H s) (r : RelV x v) (ty : tyV X.K T x H) :
    s.TypeIs v T ∧ ∀ a, v = .ref a → ∃ ob, s.heap.get? a = some ob ∧ ob.dict = none := by
  cases x with
  | str z =>
    obtain ⟨t, rfl⟩ := r
    cases (show T = "str" from ty)
    exact ⟨typeIs_str s z t, fun _ e => nomatch e⟩
  | int i =>
    obtain ⟨t, rfl⟩ := r
    cases (show T = "int" from ty)
    exact ⟨typeIs_int s i t, fun _ e => nomatch e⟩
  | ref p =>
    cases r
    rcases ty with ⟨rfl, xs, hq⟩ | ⟨rfl, o, hk, hc, hd⟩ | ⟨rfl, hk⟩ | ⟨rfl, S, n, hk⟩
    · obtain ⟨its, _, pl, _⟩ := I.list hq
      refine ⟨pl.isList.typeIs, fun a e => ?_⟩
      cases e
      obtain ⟨o, n, e, c, hd, _⟩ := pl
      exact ⟨o, e, hd⟩
    · refine ⟨⟨o, I.kIn p o hk, hc⟩, fun a e => ?_⟩
      cases e
      exact ⟨o, I.kIn _ o hk, hd⟩
    · have z : ∃ o, s.heap.get? p = some o ∧ o.ExactDict := by
        rcases hk with ⟨kvs, hk⟩ | ⟨kvs, hk⟩
        · obtain ⟨_, _, _, _, o, _, _, e, ex, _⟩ := I.hok p _ hk
          exact ⟨o, e, ex⟩
        · obtain ⟨_, _, _, _, o, _, _, e, ex, _⟩ := I.hok p _ hk
          exact ⟨o, e, ex⟩
      obtain ⟨o, e, ex⟩ := z
      refine ⟨⟨o, e, ex.1⟩, fun a e2 => ?_⟩
      cases e2
      exact ⟨o, e, ex.2.1⟩
    · obtain ⟨o, _, _, _, e, ex, _⟩ := I.hok p _ hk
      refine ⟨⟨o, e, ex.1⟩, fun a e2 => ?_⟩
      cases e2
      exact ⟨o, e, ex.2.1⟩
  | _ => exact False.elim ty
def tBM0 (K : PySem.W.Frag) (T : String) (r : V → List V → Hp → VK → Prop) (to : TE) : TE := fun σ H Q => to σ H fun x H1 => tyV K T x H1 ∧ r x [] H1 Q
def tBM (K : PySem.W.Frag) (T : String) (r : V → List V → Hp → VK → Prop) (to : TE) (t : TA) : TE := fun σ H Q => to σ H fun x H1 => tyV K T x H1 ∧ t σ H1 fun xs H2 => r x xs H2 Q
variable {o e : Expr} {es : List Expr} {to : TE} {t : TA} {name : Str} {apos cpos : Pos} {T id : String} {r : V → List V → Hp → VK → Prop}
theorem pe_bm (pa : PlainAttrs T) (slot : Slot T name id) (hty : typeOf (.builtin id) = pure (.type "method_descriptor")) (hm : MtR X id r) (ho : PE X o to) (ha : PA X (e :: es) t)
    (hbase : attributeBase o name X.env (eval o X.env) = eval o X.env := by rfl)
    (hfew : ((backTo cpos (starEach (e :: es) X.env)).all (fun x => !x.1) && (backToKw cpos (keywordEach [] X.env)).all (fun x => x.1.isSome)
      && decide ((e :: es).length + ([] : List Keyword).length + (if ([] : List Keyword).isEmpty then 0 else 1) < 30)) = true := by rfl)
    (hline : (apos.endLine == cpos.line) = true := by rfl) (hs : starEach (e :: es) X.env = (false, eval e X.env) :: starEach es X.env := by rfl) (hplain : (backTo cpos (starEach es X.env)).any (·.1) = false := by rfl) :
    PE X (.Call (.Attribute o name apos) (e :: es) [] cpos) (tBM X.K T r to t) := by
  intro pins s σ H Q I h
  refine wpAny_Call_method_late hbase hfew hline rfl (thn (ho pins s σ H _ I h) fun v s1 ⟨x, H1, I1, r1, ty, q1⟩ => ?_)
  obtain ⟨h1, h2⟩ := tyV_is I1 r1 ty
  refine ⟨T, id, pa, slot, hty, h1, h2, ?_⟩
  have hA := ha cpos pins s1 σ H1 _ I1 q1
  rw [hs] at hA ⊢
  refine Calls.callWith_builtin (by show (false || (backTo cpos (starEach es X.env)).any (·.1)) = false; rw [hplain] <;> rfl) (Calls.evalArgs_plain ?_)
  exact thn hA fun us s2 ⟨vs, H2, I2, r2, q2⟩ => hm pins s2 σ H2 x vs v us Q I2 r1 r2 q2
/- xs.append(e), list.index on a module's tuple .. are MtR facts of 06m -/
end
end L2
namespace L2
open PySem PySem.Spec PyProof.Rows
def MtM (X : Cx) (id : String) (r : V → List V → Hp → VK → Prop) : Prop :=
  ∀ (pins : List (Addr × Obj)) (s : Shared) (σ : St) (H : Hp) (x : V) (xs : List V) (v : Value) (us : List Value) (Q : VK), Inv X pins σ H s → RelV x v → Vals xs us → r x xs H Q →
    wpAny (model X.prog X.w) X.A (call (.builtin id) (v :: us)) (EP X pins σ Q) X.xe s
theorem Vals.one : ∀ {x : V} {us : List Value}, Vals [x] us → ∃ u, us = [u] ∧ RelV x u
  | _, _, .cons r .nil => ⟨_, rfl, r⟩
theorem Vals.two : ∀ {x y : V} {us : List Value}, Vals [x, y] us → ∃ u v, us = [u, v] ∧ RelV x u ∧ RelV y v
  | _, _, _, .cons r (.cons q .nil) => ⟨_, _, rfl, r, q⟩
theorem Vals.zero : ∀ {us : List Value}, Vals [] us → us = []
  | _, .nil => rfl
theorem Vals.dropLast {xs : List V} {us : List Value} (h : Vals xs us) : Vals xs.dropLast us.dropLast := by
  induction h with
  | nil => exact .nil
  | cons r t ih =>
    cases t with
    | nil => exact .nil
    | cons q t' => exact .cons r ih
theorem Vals.eraseIdx : ∀ {xs : List V} {us : List Value} (i : Nat), Vals xs us → Vals (xs.eraseIdx i) (us.eraseIdx i)
  | _, _, _, .nil => .nil
  | _, _, 0, .cons _ t => t
  | _, _, i + 1, .cons r t => .cons r (Vals.eraseIdx i t)
theorem Vals.reverse {xs : List V} {us : List Value} (h : Vals xs us) : Vals xs.reverse us.reverse := by
  induction h with
  | nil => exact .nil
  | cons r t ih => rw [List.reverse_cons, List.reverse_cons]; exact Vals.append ih (.cons r .nil)
theorem Vals.rep {xs : List V} {us : List Value} (h : Vals xs us) : ∀ k : Nat, Vals (List.replicate k xs).flatten (List.replicate k us).flatten
  | 0 => .nil
  | k + 1 => by
    rw [List.replicate_succ, List.replicate_succ, List.flatten_cons, List.flatten_cons]
    exact Vals.append h (Vals.rep h k)
theorem len_erase {α : Type} : ∀ (l : List α) (i : Nat), (l.eraseIdx i).length ≤ l.length
  | [], _ => Nat.le_refl _
  | _ :: _, 0 => Nat.le_succ _
  | _ :: r, i + 1 => Nat.succ_le_succ (len_erase r i)
section
variable {X : Cx} {pins : List (Addr × Obj)} {σ : St} {H : Hp} {s : Shared} {l b : Addr} {xs ys zs : List V}
theorem Inv.lset {its its' : List Value} {n : Nat} {f : Array Value → Array Value} {t' : Nat} (I : Inv X pins σ H s) (hH : H l = some (.lst xs))
    (e : s.heap.get? l = some { cls := .type "list", data := .seq its.toArray n }) (hf : f its.toArray = its'.toArray) (hv : Vals ys its') (hz : ys.length ≤ sizeLine) :
    Inv X pins σ (upd H l (.lst ys)) { s with heap := s.heap.update l (Obj.mapSeq f), toks := t' } := by
  have q := PySem.IsL.update e f
  rw [hf] at q
  refine I.write (x := l) (e := l) (by rw [hH]; exact trivial) (.inl rfl) (fun b' u hb hu => (Heap.get?_update_other s.heap (Obj.mapSeq f) (Ne.symm hb)).trans hu) ⟨_, q⟩ ?_
  exact ⟨hz, its', _, hv, q⟩
theorem Inv.lnew {its : List Value} {t' : Nat} (I : Inv X pins σ H s) (hv : Vals ys its) (hz : ys.length ≤ sizeLine) :
    Inv X pins σ (upd H s.heap.objs.size (.lst ys)) { s with heap := s.heap.push { cls := .type "list", data := .seq its.toArray }, toks := t' } :=
  I.laid (fun _ _ q => Heap.get?_push_of_some _ q) (Nat.le_refl _) ⟨hz, its, 0, hv, Heap.get?_push_size _ rfl⟩
theorem Inv.fresh (I : Inv X pins σ H s) : H s.heap.objs.size = none := I.hok.fresh (Nat.le_refl _)
theorem Inv.lstM (I : Inv X pins σ H s) (hH : H l = some (.lst xs)) : xs.length ≤ sizeLine ∧ ∃ (its : List Value) (n : Nat), Vals xs its ∧ xs.length = its.length ∧ s.heap.get? l = some { cls := .type "list", data := .seq its.toArray n } := by
  obtain ⟨z, its, n, r, e⟩ := I.hok l _ hH
  exact ⟨z, its, n, r, r.length, e⟩
theorem notLongL {n : Nat} (h : n ≤ sizeLine) : Builtin.List.listTooLong n = false := by
  unfold Builtin.List.listTooLong
  exact decide_eq_false (by omega)
end
section
variable {X : Cx}
def rAppend : V → List V → Hp → VK → Prop := fun x vs H Q => ∃ l xs y, x = .ref l ∧ vs = [y] ∧ H l = some (.lst xs) ∧ xs.length < sizeLine ∧ Q .non (upd H l (.lst (xs ++ [y])))
theorem mt_append : MtM X "list.append" rAppend := by
  intro pins s σ H x vs v us Q I rx rv h
  obtain ⟨l, xs, y, rfl, rfl, hH, hz, q⟩ := h
  cases rx
  obtain ⟨u, rfl, ru⟩ := rv.one
  obtain ⟨z, its, n, r, hl, e⟩ := I.lstM hH
  refine call_meets F.slot_list_append ⟨_, e, rfl⟩ F.entry_list_append (F.args_list_append_2 _ _) (PySem.list_append l its.toArray n u (by rw [List.size_toArray]; omega)) ⟨e, ?_⟩
  refine ⟨.non, _, I.lset (its' := its ++ [u]) hH e (by simp) (r.append (.cons ru .nil)) ?_, rfl, q⟩
  rw [List.length_append, List.length_singleton]
  omega
def rExtend : V → List V → Hp → VK → Prop := fun x vs H Q => ∃ l b xs zs, x = .ref l ∧ vs = [.ref b] ∧ H l = some (.lst xs) ∧ H b = some (.lst zs) ∧ xs.length + zs.length ≤ sizeLine ∧ Q .non (upd H l (.lst (xs ++ zs)))
theorem mt_extend : MtM X "list.extend" rExtend := by
  intro pins s σ H x vs v us Q I rx rv h
  obtain ⟨l, b, xs, zs, rfl, rfl, hH, hB, hz, q⟩ := h
  cases rx
  obtain ⟨u, rfl, ru⟩ := rv.one
  cases ru
  obtain ⟨z, its, n, r, hl, e⟩ := I.lstM hH
  obtain ⟨z2, its2, n2, r2, hl2, e2⟩ := I.lstM hB
  have hsz : its.toArray.size + its2.toArray.size ≤ sizeLine := by rw [List.size_toArray, List.size_toArray]; omega
  have hlong : ¬ (!its.toArray.isEmpty && Builtin.List.listTooLong (its.toArray.size + its2.toArray.size)) = true := by
    rw [notLongL hsz, Bool.and_false]
    exact Bool.false_ne_true
  refine call_meets F.slot_list_extend ⟨_, e, rfl⟩ F.entry_list_extend (F.args_list_extend_2 _ _)
    (AutoSeq1.list_extend_list_list_0 l its.toArray n b its2.toArray n2 hlong (by rw [List.size_toArray]; omega) (by omega)) ⟨e, e2, ?_⟩
  refine ⟨.non, _, I.lset (its' := its ++ its2) hH e (by simp) (r.append r2) ?_, rfl, q⟩
  rw [List.length_append]
  omega
def rPop : V → List V → Hp → VK → Prop := fun x vs H Q => ∃ l xs y, x = .ref l ∧ vs = [] ∧ H l = some (.lst xs) ∧ xs[xs.length - 1]? = some y ∧ Q y (upd H l (.lst xs.dropLast))
def rPopAt : V → List V → Hp → VK → Prop := fun x vs H Q => ∃ l xs i k y, x = .ref l ∧ vs = [.int i] ∧ H l = some (.lst xs) ∧ -(2 ^ 63) ≤ i ∧ i < 2 ^ 63 ∧ seqIndex? i xs.length = some k ∧ xs[k]? = some y ∧ Q y (upd H l (.lst (xs.eraseIdx k)))
theorem mt_popAt : MtM X "list.pop" rPopAt := by
  intro pins s σ H x vs v us Q I rx rv h
  obtain ⟨l, xs, i, k, y, rfl, rfl, hH, h1, h2, hk, hy, q⟩ := h
  cases rx
  obtain ⟨u, rfl, ru⟩ := rv.one
  obtain ⟨t, rfl⟩ := ru
  obtain ⟨z, its, n, r, hl, e⟩ := I.lstM hH
  obtain ⟨w, hw, rw'⟩ := r.get hy
  refine call_meets F.slot_list_pop ⟨_, e, rfl⟩ F.entry_list_pop (F.args_list_pop_2 _ _)
    (MeetsSeq.list_pop_at l its.toArray n i t k w (fitsIndex_both h1 h2) (by rw [List.size_toArray, ← hl]; exact hk) (by rw [← Array.getElem?_toList]; exact hw) (by rw [List.size_toArray]; omega)) ⟨e, ?_⟩
  refine ⟨y, _, I.lset (its' := its.eraseIdx k) hH e ?_ (r.eraseIdx k) ?_, rw', q⟩
  · show its.toArray.eraseIdxIfInBounds k = (its.eraseIdx k).toArray
    rw [List.eraseIdxIfInBounds_toArray]
  · have := len_erase xs k
    omega
def rReverse : V → List V → Hp → VK → Prop := fun x vs H Q => ∃ l xs, x = .ref l ∧ vs = [] ∧ H l = some (.lst xs) ∧ Q .non (upd H l (.lst xs.reverse))
def rClear : V → List V → Hp → VK → Prop := fun x vs H Q => ∃ l xs, x = .ref l ∧ vs = [] ∧ H l = some (.lst xs) ∧ Q .non (upd H l (.lst []))
def rCat : R2 := fun x y H Q => ∃ l b xs zs, x = .ref l ∧ y = .ref b ∧ H l = some (.lst xs) ∧ H b = some (.lst zs) ∧ xs.length + zs.length ≤ sizeLine ∧ ∀ p, H p = none → Q (.ref p) (upd H p (.lst (xs ++ zs)))
theorem op_cat : OpR X (binaryOp .Add) rCat := by
  intro pins s σ H x y v u Q I rx ry h
  obtain ⟨l, b, xs, zs, rfl, rfl, hH, hB, hz, q⟩ := h
  cases rx
  cases ry
  obtain ⟨z, its, n, r, hl, e⟩ := I.lstM hH
  obtain ⟨z2, its2, n2, r2, hl2, e2⟩ := I.lstM hB
  refine PySem.P.add_list e e2 ?_ (by rw [List.size_toArray, List.size_toArray]; omega)
  have ea : its.toArray ++ its2.toArray = (its ++ its2).toArray := by simp
  rw [ea]
  exact ⟨.ref _, _, I.lnew (t' := s.toks) (r.append r2) (by rw [List.length_append]; omega), rfl, q _ I.fresh⟩
def rRep : R2 := fun x y H Q => ∃ l k xs, x = .ref l ∧ y = .int k ∧ H l = some (.lst xs) ∧ -(2 ^ 63) ≤ k ∧ k < 2 ^ 63 ∧ xs.length * k.toNat ≤ sizeLine ∧
  ∀ p, H p = none → Q (.ref p) (upd H p (.lst (List.replicate k.toNat xs).flatten))
end
section
variable {prog : Program} {w : World} {A : Around} {E : Value → Shared → Prop} {s : Shared}
end
section
variable {X : Cx}
end
end L2
namespace Att
open PySem PySem.W PySem.Calls PyProof.Rows
theorem ints_of_wellAll {P : Params} {h : Heap} : ∀ (ns : List Int) (vs : List Value), WellAll P h vs (ns.map WData.int) → IntsAre vs ns := by
  intro ns
  induction ns with
  | nil =>
    intro vs w
    rw [List.map_nil] at w
    cases w
    exact .nil
  | cons n ns ih =>
    intro vs w
    rw [List.map_cons] at w
    cases w with
    | cons a b =>
      cases a
      exact .cons _ _ (ih _ b)
theorem script_of {l : OpenLaw} {n : Nat} (hn : l.most = some n) {P : Params} {h : Heap} {args : List WData} {vals : List Value}
    (hpre : l.row.toRowW.claim.pre args = true) (hwl : WellAll P h vals args) :
    ∃ a vs ns, vals = [Value.ref a] ∧ args = [WData.list (ns.map WData.int)] ∧ h.get? a = some { cls := .type "list", data := .seq vs.toArray } ∧ IntsAre vs ns ∧ ns.length ≤ n := by
  have hsh : WShape.hasAll [] args [.list .int] = true := (pre_splitW hpre).1
  have hc : l.pre.holds [] { args := args } = true := (pre_splitW hpre).2
  obtain ⟨d, r, rfl, h1, h2⟩ := hasAllW_cons hsh
  obtain rfl := hasAllW_nil h2
  obtain ⟨xs, rfl, h3⟩ := hasW_list h1
  obtain ⟨ns, rfl⟩ := items_int h3
  have hlen : ns.length ≤ n := by
    unfold OpenLaw.pre at hc
    have h4 : (WTm.not (.lt (.lit (.int (n : Int))) (.len (.arg 0)))).holds [] { args := [.list (ns.map .int)] } = true := by
      have h4 := (holds_andW hc).1
      rw [hn] at h4
      exact h4
    have h5 := condW_of h4 (w_not (w_lt w_lit (w_len_list (w_arg rfl))))
    rw [List.length_map] at h5
    refine Nat.le_of_not_lt fun q => ?_
    have q' : (n : Int) < ((ns.length : Nat) : Int) := by omega
    first
      | (rw [decide_eq_true q'] at h5; exact absurd h5 (by decide))
      | (simp at h5; omega)
  cases hwl with
  | cons w1 w2 =>
    cases w2
    cases w1 with
    | list ho hall => exact ⟨_, _, ns, rfl, rfl, ho, ints_of_wellAll ns _ hall, hlen⟩
theorem post_true (l : OpenLaw) (args : List WData) : l.row.toRowW.claim.post args (.bool true) args = true :=
  postW_of (r := l.row.toRowW) (X := (true == true))
    (show WShape.has [] (.bool true) .bool = true by first | rfl | decide | simp [WShape.has, WShape.arms, WShape.armsAll])
    (show (WTm.eq .res (.lit (.bool true))).value [] { args := args, res := some (.bool true), after := args } = some (.bool (true == true)) from w_eq_bool (w_res rfl) w_lit) rfl
theorem attach_call {l : OpenLaw} {n : Nat} {q : Program} {loose : List Str} {XP : (Str → Option Value) → Heap → Prop} {YP : World → Heap → Prop} {d : DefRec}
    (hn : l.most = some n) (hdf : d.params.defaults = [])
    (call : ∀ (w : World) (s₀ s₁ : Shared) (mg mb : Str → Option Value) (fa : Addr) (o : Obj) (pm cd doc : Value) (a : Addr) (vs : List Value) (ns : List Int),
      Ground q loose [] XP w s₀ mg mb s₁.heap → YP w s₁.heap →
      s₁.heap.get? fa = some o → o.data = .func (docDef d.name d.params d.body d.scope pm cd doc) → s₁.heap.CodeRec cd d.name → mg d.name = some (.ref fa) →
      s₁.heap.get? a = some { cls := .type "list", data := .seq vs.toArray } → IntsAre vs ns → ns.length ≤ n → s₁.gens = #[] →
      codeAny (model l.prog w) callerA (.call (.ref fa) ⟨[.ref a], []⟩) (fun r s' => r = .ok (.ret (.bool true)) ∧ OldK s₁.heap s'.heap ∧ s'.os = s₁.os ∧ AllBare s'.gens) s₁) :
    WalkO q loose XP YP l.row.toRowW d [] (fun f vs => PySem.call f vs) := by
  intro w s₀ s₁ mg mb G Y fa o pm cd doc dV kV ho hd hcd hD hmg hg args vals as hpre hlay hrd hwl hlo
  obtain rfl : dV = .none := Dflts.none hD hdf
  obtain rfl : kV = .none := Dflts.noKw hD
  obtain ⟨a, vs, ns, rfl, rfl, hobj, hints, hlen⟩ := script_of hn hpre hwl
  refine enter_call (codeAny_mono (call w s₀ s₁ mg mb fa o pm cd doc a vs ns G Y ho (fd_plain hd) hcd hmg hobj hints hlen hg) fun r s' hq => ?_)
  obtain ⟨rfl, h2, h3, h4⟩ := hq
  exact ⟨.inl ⟨.bool true, .bool true, [], rfl, fun _ => rfl, .bool true, post_true l _, fun _ => ⟨List.Pairwise.nil, fun _ hm => (nomatch hm)⟩⟩, h2, h3, h4⟩
section
variable {prog : Program} {w : World} {A : Around} {E : Value → Shared → Prop} {s : Shared} {K : Frag}
def noObjs (h : Heap) : Heap := { h with objs := #[] }
def ledger (h : Heap) (L d : Addr) : List (Addr × Obj) := (List.range h.objs.size).filterMap fun a => if a = L ∨ a = d then none else (h.get? a).map fun o => (a, o)
end
end Att
namespace L2
open PySem PySem.Spec PyProof.Rows
theorem vals_ints : ∀ {vs : List Value} {ns : List Int}, IntsAre vs ns → Vals (ns.map V.int) vs
  | _, _, .nil => .nil
  | _, _, .cons n t h => .cons ⟨t, rfl⟩ (vals_ints h)
def Only (H : Hp) : Prop := ∀ b, H b = none ∨ ∃ o xs, H b = some (.frz o (.lst xs))
theorem law_call {P : Program} {w : World} {K : PySem.W.Frag} {mg mb : Str → Option Value} {CX : CXT} {k : Nat} {fa a : Addr} {fd : FuncData} {x : Str} {sp : Sp} {s₁ : Shared} {vs : List Value} {ns : List Int}
    (KX : K.In s₁.heap) (hns : s₁.heap.Ns mainGlobals mg) (hb : s₁.heap.Ns builtinsNs mb) (hbb : ∀ x : Str, x ≠ "__name__" → mb x = bootBuiltins x) (hlim : s₁.heap.NoLimit) (hg : s₁.gens = #[])
    (ha : s₁.heap.get? a = some { cls := .type "list", data := .seq vs.toArray }) (hi : IntsAre vs ns) (hl : ns.length ≤ sizeLine) (hr : Room k callerA)
    (F : ∀ base : Heap, K.In base → base.Ns mainGlobals mg → FnOk P w K mg base CX k fa fd [x] sp) (hbind : ∀ (s : Shared) (u : Value), BindsTo s fd ⟨[u], []⟩ [(x, u)])
    (hsp : ∀ H : Hp, Only H → SqL K H a (ns.map V.int) → sp [.ref a] H (fun v _ => v = .bl true) fun _ _ _ => False)
    (hCX : ∀ H e s', CX [] H s₁ (fun _ _ _ => False) e s' → False) :
    codeAny (model P w) callerA (.call (.ref fa) ⟨[.ref a], []⟩) (fun r s' => r = .ok (.ret (.bool true)) ∧ OldK s₁.heap s'.heap ∧ s'.os = s₁.os ∧ AllBare s'.gens) s₁ := by
  have rv := vals_ints hi
  have lenV := hi.length
  have core : ∀ H : Hp, Only H → SqL K H a (ns.map V.int) → HOk P w H s₁.heap → (∀ b, H b ≠ none → b = a) → (H a ≠ none → K.lookup a = none) →
      codeAny (model P w) callerA (.call (.ref fa) ⟨[.ref a], []⟩) (fun r s' => r = .ok (.ret (.bool true)) ∧ OldK s₁.heap s'.heap ∧ s'.os = s₁.os ∧ AllBare s'.gens) s₁ := by
    intro H hO hS hok hA hK
    have base_of : ∀ {b : Addr} {o : Obj}, s₁.heap.get? b = some o → H b = none → (hidT s₁.heap H).get? b = some o := fun e n => hidT_get e n
    have noA : ∀ {b : Addr} {o : Obj} {es : Array DictEntry} {ep : Nat}, s₁.heap.get? b = some o → o.data = .dict es ep → H b = none := fun {b o es ep} e d => by
      cases q : H b with
      | none => rfl
      | some u =>
        have e' : b = a := hA b (by rw [q]; simp)
        subst e'
        rw [ha] at e; cases e
        have d' : Data.seq vs.toArray _ = Data.dict es ep := d
        cases d'
    have nsK : ∀ {b : Addr} {m : Str → Option Value}, s₁.heap.Ns b m → (hidT s₁.heap H).Ns b m := fun {b m} ⟨o, es, ep, e, d, r⟩ => ⟨o, es, ep, base_of e (noA e d), d, r⟩
    have hKb : K.In (hidT s₁.heap H) := fun b o e => base_of (KX b o e) (by
      cases q : H b with
      | none => rfl
      | some u =>
        have e' : b = a := hA b (by rw [q]; simp)
        subst e'
        rw [hK (by rw [q]; simp)] at e; cases e)
    have hM : Mod K mg (hidT s₁.heap H) := ⟨hKb, nsK hns, ⟨mb, nsK hb, hbb⟩, let ⟨mc, h1, h2⟩ := hlim; ⟨mc, nsK h1, h2⟩⟩
    have e0 : Env0 P w K mg (hidT s₁.heap H) callerA [] s₁ H := ⟨rfl, hM, fun b o e => of_hidT e, Nat.le_of_eq (hidT_size _ _), trivial, fun b hb => absurd (show b ∈ ([] : List Addr) from hb) (by simp), hok, .of_eq hg⟩
    refine codeAny_mono ((F _ hKb (nsK hns)).run callerA [] s₁ H ⟨[.ref a], []⟩ [.ref a] [.ref a] _ _ hr e0 (hbind s₁ (.ref a)) (.cons rfl .nil) (hsp H hO hS)) fun r s' h => ?_
    cases r with
    | error e => exact (hCX H e s' h).elim
    | ok fl =>
      cases fl with
      | next => exact False.elim h
      | brk => exact False.elim h
      | cont => exact False.elim h
      | ret u =>
        obtain ⟨v, H', os, bare, un, hok', r', q⟩ := h
        have q' : v = .bl true := q
        subst q'
        obtain rfl : u = Value.bool true := r'
        refine ⟨rfl, OldK.of_keep fun b o e => ?_, os, bare⟩
        cases q : H b with
        | none => exact un.keep b o e q (by intro z; exact absurd (show b ∈ ([] : List Addr) from z) (by simp)) (by simp)
        | some u =>
          rcases hO b with z | ⟨ob, xs, z⟩
          · rw [q] at z; cases z
          · have z2 := un.frzs b ob _ z
            obtain ⟨e1, _⟩ := hok b _ z
            obtain ⟨e2, _⟩ := hok' b _ z2
            rw [e] at e1; cases e1
            exact e2
  cases hk : K.lookup a with
  | some o =>
    have e := KX a o hk
    rw [ha] at e
    cases e
    refine core (fun _ => none) (fun _ => .inl rfl) (.inr ⟨_, vs.toArray, _, hk, rfl, rfl, rfl, by rw [List.size_toArray, lenV]; exact hl, by simpa using rv⟩) (fun b u z => by have z' : (none : Option HO) = some u := z; cases z') (fun b z => absurd rfl z) fun z => absurd rfl z
  | none =>
    refine core (fun b => if b = a then some (.frz { cls := .type "list", data := .seq vs.toArray } (.lst (ns.map V.int))) else none) (fun b => ?_) (.inl (.inr ⟨{ cls := .type "list", data := .seq vs.toArray }, if_pos rfl⟩)) (fun b u z => ?_) (fun b z => ?_) fun _ => hk
    · by_cases hb : b = a
      · exact .inr ⟨_, _, if_pos hb⟩
      · exact .inl (if_neg hb)
    · by_cases hb : b = a
      · have z' := (if_pos hb).symm.trans z
        cases z'
        subst hb
        exact ⟨ha, by rw [List.length_map]; exact hl, vs, _, rv, ha⟩
      · have z' := (if_neg hb).symm.trans z
        cases z'
    · by_cases hb : b = a
      · exact hb
      · exact absurd (if_neg hb) z
end L2
namespace L2
open PySem PySem.Spec PyProof.Rows
abbrev KOf {K : PySem.W.Frag} {h : Heap} (_ : K.In h) : PySem.W.Frag := K
theorem walk_of {l : PySem.W.OpenLaw} {n k : Nat} {q : Program} {loose : List Str} {XP : (Str → Option Value) → Heap → Prop} {YP : World → Heap → Prop} {d : DefRec} {K : Params → PySem.W.Frag} {CX : World → CXT} {sp : World → Sp} {x : Str}
    (hn : l.most = some n) (hn2 : n ≤ sizeLine) (hdf : d.params.defaults = []) (hr : Room k callerA)
    (hY : ∀ (w : World) (h : Heap), YP w h → (K w.params).In h)
    (F : ∀ (w : World) (mg : Str → Option Value) (fa : Addr) (h : Heap), (K w.params).In h → h.Ns mainGlobals mg → mg d.name = some (.ref fa) →
      ∃ fd : FuncData, (∀ (s : Shared) (u : Value), BindsTo s fd ⟨[u], []⟩ [(x, u)]) ∧
        ∀ base : Heap, (K w.params).In base → base.Ns mainGlobals mg → FnOk l.prog w (K w.params) mg base (CX w) k fa fd [x] (sp w))
    (hsp : ∀ (w : World) (H : Hp) (a : Addr) (ns : List Int), ns.length ≤ n → Only H → SqL (K w.params) H a (ns.map V.int) → sp w [.ref a] H (fun v _ => v = .bl true) fun _ _ _ => False)
    (hCX : ∀ (w : World) (H : Hp) (s : Shared) (e : Value) (s' : Shared), CX w [] H s (fun _ _ _ => False) e s' → False) :
    PySem.W.WalkO q loose XP YP l.row.toRowW d [] (fun f vs => PySem.call f vs) := by
  refine Att.attach_call hn hdf fun w s₀ s₁ mg mb fa o pm cd doc a vs ns G Y ho hd hcd hmg hobj hints hlen hg => ?_
  have KX := hY w _ Y
  obtain ⟨fd, hb, hF⟩ := F w mg fa _ KX G.T.g hmg
  exact law_call KX G.T.g G.T.b G.T.builtins G.T.nolimit hg hobj hints (Nat.le_trans hlen hn2) hr hF hb (fun H hO hS => hsp w H a ns hlen hO hS) fun H e s' => hCX w H s₁ e s'
end L2
/- THE LAST THEOREM (shape; LID, My.* are yours):
   My.Adr: a structure of the addresses that your layer names (classes, functions); My.Txt K t: a structure (Prop) of the equations over K;
   My.txt_mk : {K} {implicit addresses ..} (e1 : nsIn K mainGlobals "law" = some (some (.ref f))) (e2 : K.lookup f = some ⟨oc, od, .func (fnOf "law" "law" params body scope dV kV doc pm an cdv ct), sl⟩) (e3 : codeIn K cdv "law" = true) .. : ∃ t, My.Txt K t
set_option maxRecDepth 100000 in
set_option maxHeartbeats 0 in
theorem PySem.Challenge.cw_LID_holds : PySem.Challenge.rw_LID.Holds := by
  w_on; o_law; k_head; (case hw => w_witness2)
  k_fill
  refine L2.walk_of (l := PySem.Challenge.rw_LID) (n := 63) (k := 40) (x := "script") (CX := fun w => ..) (sp := fun _ => My.sp_law) rfl (by decide) rfl ⟨rfl, by decide, by decide⟩ (fun w h Y => PySem.W.kIn_of Y) ?F ?S ?C
  case F =>
    intro w mg fa h KX G hmg
    have T : ∃ t, My.Txt (L2.KOf KX) t := by
      dsimp only [L2.KOf]                          -- K must stand as «<heap const> w.params» for k_is
      refine' My.txt_mk ?e1 ?e2 ?e3 ..
      (case e1 => PySem.W.k_is)                    -- in the order: a name -> its address -> its object -> its parts
      (case e2 => PySem.W.k_is)
      ..
    obtain ⟨t, T⟩ := T
    have e0 := hmg.symm.trans (PySem.W.mg_of KX G T.law)
    cases e0                                       -- fa is the law's own address
    exact ⟨_, fun s u => .of_eq rfl, fun base kb nb => My.law_fn T kb nb⟩     -- if «.of_eq rfl» comes too early: refine' ⟨_, ?b, fun base kb nb => My.law_fn T kb nb⟩; exact fun s u => .of_eq rfl
  case S => exact fun w H a ns hl hO hS => ..
  case C => exact ..
(the tactic k_is has no namespace: write k_is) -/
namespace L2
open PySem PySem.Spec PyProof.Rows
def inClass (s : Stmt) (j : Nat) : Stmt := match s with
  | .ClassDef _ _ _ body _ _ _ _ _ _ _ => body.getD j (.Pass ⟨0, 0, 0, 0⟩)
  | _ => .Pass ⟨0, 0, 0, 0⟩
def defArgs (s : Stmt) : Arguments := match s with
  | .FunctionDef _ a _ _ _ _ _ _ _ _ => a
  | _ => { posonlyargs := [], args := [], vararg := none, kwonlyargs := [], kw_defaults := [], kwarg := none, defaults := [] }
def defBody (s : Stmt) : List Stmt := match s with
  | .FunctionDef _ _ b _ _ _ _ _ _ _ => b
  | _ => []
def defScope (s : Stmt) : Scope := match s with
  | .FunctionDef _ _ _ _ _ _ sc _ _ _ => sc
  | _ => { kind := .function, names := [], isGenerator := false, isCoroutine := false }
abbrev CX0 : CXT := fun _ _ _ _ _ _ => False
abbrev E0 : XK := fun _ _ _ => False
theorem pass0 {X : Cx} : Passes CX0 X E0 := fun _ _ _ _ _ _ _ h => h.elim
structure Fun (K : PySem.W.Frag) (x qual : Str) (st : Stmt) (f : Addr) (fd : FuncData) : Prop where
  ex : ∃ (oc : Value) (od : Option Addr) (kV doc pm : Value) (an : Option Addr) (cdv ct : Value) (osl : Array (Option Value)),
    fd = PySem.W.fnOf x qual (defArgs st) (defBody st) (defScope st) .none kV doc pm an cdv ct ∧ K.lookup f = some ⟨oc, od, .func fd, osl⟩ ∧ PySem.W.codeIn K cdv qual = true
  kp : PySem.W.keepIn K (.ref f) = true
section
variable {P : Program} {w : World} {K : PySem.W.Frag} {mg : Str → Option Value} {base : Heap}
theorem Fun.ok {x qual : Str} {st : Stmt} {f : Addr} {fd : FuncData} {N ps : List Str} {k : Nat} {sp : Sp} (F : Fun K x qual st f fd) (S : FnScope N ps (defScope st)) (len : ∀ vs H Q E, sp vs H Q E → vs.length = ps.length)
    (hbody : ∀ (cdv : Value) (A : Around) (outer : List Env) (s : Shared) (H : Hp) (vs : List V) (Q : VK) (E : XK), Room k (A.deeper (envOfC qual (defScope st) s.heap.objs.size f cdv)) → sp vs H Q E →
      ∃ t, PSs (cxOf CX0 P w K mg base N qual (defScope st) f cdv A outer s H E).nox (defBody st) t ∧ t { nx := fun _ H' => Q .non H', rt := Q } (start N vs) H) : FnOk P w K mg base CX0 (k + 1) f fd ps sp := by
  obtain ⟨oc, od, kV, doc, pm, an, cdv, ct, osl, rfl, lk, hcd⟩ := F.ex
  refine fn_of lk hcd S len fun A outer s H vs Q E hr hsp => ?_
  obtain ⟨t, h, q⟩ := hbody cdv A outer s H vs Q E hr hsp
  exact ⟨t, h.nox, q⟩
theorem Fun.binds {x qual : Str} {st : Stmt} {f : Addr} {fd : FuncData} {ps : List Str} (F : Fun K x qual st f fd)
    (h : ∀ (kV doc pm : Value) (an : Option Addr) (cdv ct : Value) (us : List Value), us.length = ps.length → bindArgs (PySem.W.fnOf x qual (defArgs st) (defBody st) (defScope st) .none kV doc pm an cdv ct) ⟨us, []⟩ = pure (ps.zip us)) : Binds K fd ps [] := by
  obtain ⟨oc, od, kV, doc, pm, an, cdv, ct, osl, rfl, lk, hcd⟩ := F.ex
  exact .all (h kV doc pm an cdv ct)
theorem fun_mk {x qual : Str} {st : Stmt} {f : Addr} {oc : Value} {od an : Option Addr} {osl : Array (Option Value)} {kV doc pm cdv ct : Value} (l : K.lookup f = some ⟨oc, od, .func (PySem.W.fnOf x qual (defArgs st) (defBody st) (defScope st) .none kV doc pm an cdv ct), osl⟩)
    (c : PySem.W.codeIn K cdv qual = true) (k : PySem.W.keepIn K (.ref f) = true) : Fun K x qual st f (PySem.W.fnOf x qual (defArgs st) (defBody st) (defScope st) .none kV doc pm an cdv ct) := ⟨⟨oc, od, kV, doc, pm, an, cdv, ct, osl, rfl, l, c⟩, k⟩
end
section
variable {X : Cx}
end
def Same (H H' : Hp) : Prop := ∀ b o, H b = some o → H' b = some o
theorem Same.refl (H : Hp) : Same H H := fun _ _ h => h
theorem Same.trans {H H1 H2 : Hp} (a : Same H H1) (b : Same H1 H2) : Same H H2 := fun c o h => b c o (a c o h)
theorem Same.free {H H' : Hp} (e : Same H H') {l : Addr} (h : H' l = Option.none) : H l = Option.none := by
  cases q : H l with
  | none => rfl
  | some o =>
    rw [e l o q] at h
    cases h
theorem Same.seq {K : PySem.W.Frag} {H H' : Hp} {a : Addr} {xs : List V} (e : Same H H') (h : SqL K H a xs) : SqL K H' a xs := by
  rcases h with (h | ⟨o, h⟩) | h
  · exact .inl (.inl (e _ _ h))
  · exact .inl (.inr ⟨o, e _ _ h⟩)
  · exact .inr h
end L2
end
section
set_option maxRecDepth 100000
set_option maxHeartbeats 4000000
namespace S3
open PySem PySem.W PyProof.Rows
def krun {α : Type} (b : Nat → Nat → Bool) : KasT α → α
  | .ret a => a
  | .ask i j k => krun b (k (b i j))
theorem krun_bind {α β : Type} (b : Nat → Nat → Bool) (f : α → KasT β) : ∀ t : KasT α, krun b (t.bind f) = krun b (f (krun b t))
  | .ret _ => rfl
  | .ask i j k => krun_bind b f (k (b i j))
section
variable (r : Nat → Nat)
abbrev bOf : Nat → Nat → Bool := fun i j => decide (r i < r j)
def ka (p : Array Nat) (k : Nat) : Nat := r (p.getD k 0)
def Asc (p : Array Nat) (n : Nat) : Prop := ∀ i j, i ≤ j → j < n → ka r p i ≤ ka r p j
def Dsc (p : Array Nat) (n : Nat) : Prop := ∀ i j, i ≤ j → j < n → ka r p j ≤ ka r p i
variable {r}
theorem getD_of {p q : Array Nat} {i j : Nat} (h : p[i]? = q[j]?) : p.getD i 0 = q.getD j 0 := by
  rw [Array.getD_eq_getD_getElem?, Array.getD_eq_getD_getElem?, h]
theorem ka_rev {p : Array Nat} {i j : Nat} (hj : j ≤ p.size) (k : Nat) : ka r (kas_rev p i j) k = if i ≤ k ∧ k < j then ka r p (i + j - 1 - k) else ka r p k := by
  have h := getElem?_mirror_all (i := i) hj k
  unfold ka kas_rev
  by_cases c : i ≤ k ∧ k < j
  · rw [if_pos c] at h ⊢; rw [getD_of h]
  · rw [if_neg c] at h ⊢; rw [getD_of h]
theorem ka_bubble {p : Array Nat} {src d : Nat} (hs : src < p.size) (hd : d ≤ src) (k : Nat) : ka r (bubble p src d) k = if k = src - d then ka r p src else if src - d < k ∧ k ≤ src then ka r p (k - 1) else ka r p k := by
  have h := getElem?_bubble hs d hd k
  unfold ka
  by_cases c : k = src - d
  · rw [if_pos c] at h ⊢; rw [getD_of h]
  · rw [if_neg c] at h ⊢
    by_cases c2 : src - d < k ∧ k ≤ src
    · rw [if_pos c2] at h ⊢; rw [getD_of h]
    · rw [if_neg c2] at h ⊢; rw [getD_of h]
theorem rev_size {p : Array Nat} {i j : Nat} : (kas_rev p i j).size = p.size := mirror_size _ _ _ _
theorem rev_perm {p : Array Nat} {i j : Nat} : (kas_rev p i j).Perm p := mirror_perm _ _ _ _
theorem asc_run {p : Array Nat} : ∀ (f n : Nat), 1 ≤ n → Asc r p n → n ≤ krun (bOf r) (kas_asc p f n) ∧ krun (bOf r) (kas_asc p f n) ≤ n + f ∧ Asc r p (krun (bOf r) (kas_asc p f n))
  | 0, n, h1, h => ⟨Nat.le_refl _, Nat.le_refl _, h⟩
  | f + 1, n, h1, h => by
    show n ≤ krun (bOf r) (if (bOf r) (p.getD n 0) (p.getD (n - 1) 0) = true then KasT.ret n else kas_asc p f (n + 1)) ∧ krun (bOf r) (if (bOf r) (p.getD n 0) (p.getD (n - 1) 0) = true then KasT.ret n else kas_asc p f (n + 1)) ≤ n + (f + 1) ∧ Asc r p (krun (bOf r) (if (bOf r) (p.getD n 0) (p.getD (n - 1) 0) = true then KasT.ret n else kas_asc p f (n + 1)))
    by_cases c : (bOf r) (p.getD n 0) (p.getD (n - 1) 0) = true
    · rw [if_pos c]; exact ⟨Nat.le_refl _, by show n ≤ n + (f + 1); omega, h⟩
    · rw [if_neg c]
      have c' : ka r p (n - 1) ≤ ka r p n := by
        exact Nat.le_of_not_lt fun z => c (decide_eq_true z)
      obtain ⟨a1, a2, a3⟩ := asc_run f (n + 1) (by omega) (fun i j hij hj => by
        by_cases e : j = n
        · subst e
          by_cases e2 : i = j
          · subst e2; exact Nat.le_refl _
          · exact Nat.le_trans (h i (j - 1) (by omega) (by omega)) c'
        · exact h i j hij (by omega))
      exact ⟨by omega, by omega, a3⟩
structure Down (r : Nat → Nat) (p : Array Nat) (n q : Nat) : Prop where
  dsc : Dsc r p n
  q1 : q + 1 ≤ n
  eqs : ∀ k, n - (q + 1) ≤ k → k < n → ka r p k = ka r p (n - 1)
theorem down_rev {p : Array Nat} {n q : Nat} (hn : n ≤ p.size) (h : Down r p n q) : ∀ k, ka r (kas_rev p (n - (q + 1)) n) k = ka r p k := fun k => by
  rw [ka_rev hn]
  split
  · next c => rw [h.eqs k c.1 c.2, h.eqs _ (by omega) (by omega)]
  · rfl
theorem desc_run : ∀ (f : Nat) (p : Array Nat) (n q : Nat), n + f ≤ p.size → Down r p n q →
    Down r (krun (bOf r) (kas_desc f p n q)).1 (krun (bOf r) (kas_desc f p n q)).2.1 (krun (bOf r) (kas_desc f p n q)).2.2 ∧ (krun (bOf r) (kas_desc f p n q)).1.Perm p ∧ n ≤ (krun (bOf r) (kas_desc f p n q)).2.1 ∧ (krun (bOf r) (kas_desc f p n q)).2.1 ≤ n + f
  | 0, p, n, q, hs, h => ⟨h, Array.Perm.refl _, Nat.le_refl _, Nat.le_refl _⟩
  | f + 1, p, n, q, hs, h => by
    have e : krun (bOf r) (kas_desc (f + 1) p n q) = if ka r p n < ka r p (n - 1) then (if q > 0 then krun (bOf r) (kas_desc f (kas_rev p (n - (q + 1)) n) (n + 1) 0) else krun (bOf r) (kas_desc f p (n + 1) 0))
        else if ka r p (n - 1) < ka r p n then (p, n, q) else krun (bOf r) (kas_desc f p (n + 1) (q + 1)) := by
      show krun (bOf r) (if (bOf r) (p.getD n 0) (p.getD (n - 1) 0) = true then _ else _) = _
      unfold ka
      by_cases c : r (p.getD n 0) < r (p.getD (n - 1) 0)
      · rw [if_pos (by simpa using c), if_pos c]
        split <;> rfl
      · rw [if_neg (by simpa using c), if_neg c]
        show krun (bOf r) (if (bOf r) (p.getD (n - 1) 0) (p.getD n 0) = true then _ else _) = _
        by_cases c2 : r (p.getD (n - 1) 0) < r (p.getD n 0)
        · rw [if_pos (by simpa using c2), if_pos c2]; rfl
        · rw [if_neg (by simpa using c2), if_neg c2]
    have q1 := h.q1
    have ext : ∀ {p' : Array Nat} {q' : Nat}, (∀ k, ka r p' k = ka r p k) → ka r p n ≤ ka r p (n - 1) → (q' = 0 ∨ (q' = q + 1 ∧ ka r p n = ka r p (n - 1))) → Down r p' (n + 1) q' := fun {p' q'} hk hle hq => by
      refine ⟨fun i j hij hj => ?_, by omega, fun k h1 h2 => ?_⟩
      · rw [hk, hk]
        by_cases ej : j = n
        · subst ej
          by_cases e2 : i = j
          · subst e2; exact Nat.le_refl _
          · exact Nat.le_trans hle (h.dsc i (j - 1) (by omega) (by omega))
        · exact h.dsc i j hij (by omega)
      · rw [hk, hk, show n + 1 - 1 = n by omega]
        rcases hq with rfl | ⟨rfl, he⟩
        · have : k = n := by omega
          subst this; rfl
        · by_cases ek : k = n
          · subst ek; rfl
          · rw [he]; exact h.eqs k (by omega) (by omega)
    rw [e]
    by_cases c : ka r p n < ka r p (n - 1)
    · rw [if_pos c]
      by_cases hq : q > 0
      · rw [if_pos hq]
        obtain ⟨a1, a2, a3, a4⟩ := desc_run f (kas_rev p (n - (q + 1)) n) (n + 1) 0 (by rw [rev_size]; omega) (ext (down_rev (by omega) h) (by omega) (.inl rfl))
        exact ⟨a1, a2.trans rev_perm, by omega, by omega⟩
      · rw [if_neg hq]
        obtain ⟨a1, a2, a3, a4⟩ := desc_run f p (n + 1) 0 (by omega) (ext (fun _ => rfl) (by omega) (.inl rfl))
        exact ⟨a1, a2, by omega, by omega⟩
    · rw [if_neg c]
      by_cases c2 : ka r p (n - 1) < ka r p n
      · rw [if_pos c2]; exact ⟨h, Array.Perm.refl _, Nat.le_refl _, by show n ≤ n + (f + 1); omega⟩
      · rw [if_neg c2]
        obtain ⟨a1, a2, a3, a4⟩ := desc_run f p (n + 1) (q + 1) (by omega) (ext (fun _ => rfl) (by omega) (.inr ⟨rfl, by omega⟩))
        exact ⟨a1, a2, by omega, by omega⟩
structure Got (r : Nat → Nat) (nrem : Nat) (p : Array Nat) (g : Nat × Array Nat) : Prop where
  asc : Asc r g.2 g.1
  le : g.1 ≤ nrem
  pos : 1 ≤ g.1
  perm : g.2.Perm p
theorem tail3_run {n nrem : Nat} {p : Array Nat} (h1 : 1 ≤ n) (hn : n ≤ nrem) (hs : nrem ≤ p.size) (h : Dsc r p n) : Got r nrem p (krun (bOf r) (kas_tail3 n nrem p)) := by
  unfold kas_tail3
  rw [krun_bind]
  have ha : Asc r (kas_rev p 0 n) n := fun i j hij hj => by
    rw [ka_rev (by omega), ka_rev (by omega), if_pos ⟨by omega, by omega⟩, if_pos ⟨by omega, by omega⟩]
    exact h _ _ (by omega) (by omega)
  obtain ⟨a1, a2, a3⟩ := asc_run (p := kas_rev p 0 n) (nrem - n) n h1 ha
  exact ⟨a3, by show krun (bOf r) (kas_asc (kas_rev p 0 n) (nrem - n) n) ≤ nrem; omega, by show 1 ≤ krun (bOf r) (kas_asc (kas_rev p 0 n) (nrem - n) n); omega, rev_perm⟩
theorem descPart_run {n nrem : Nat} {p : Array Nat} (hn : n < nrem) (hs : nrem ≤ p.size) (h : Down r p (n + 1) 0) : Got r nrem p (krun (bOf r) (kas_descPart n nrem p)) := by
  unfold kas_descPart
  rw [krun_bind]
  obtain ⟨a1, a2, a3, a4⟩ := desc_run (nrem - (n + 1)) p (n + 1) 0 (by omega) h
  generalize krun (bOf r) (kas_desc (nrem - (n + 1)) p (n + 1) 0) = d at a1 a2 a3 a4
  obtain ⟨p', n', q'⟩ := d
  dsimp only at a1 a2 a3 a4
  have hsz : p'.size = p.size := a2.size_eq
  by_cases hq : q' > 0
  · show Got r nrem p (krun (bOf r) (if q' > 0 then _ else _))
    rw [if_pos hq]
    have hd : Dsc r (kas_rev p' (n' - (q' + 1)) n') n' := fun i j hij hj => by
      rw [down_rev (show n' ≤ p'.size by omega) a1, down_rev (show n' ≤ p'.size by omega) a1]
      exact a1.dsc i j hij hj
    have := tail3_run (n := n') (nrem := nrem) (by omega) (by omega) (by rw [rev_size, hsz]; exact hs) hd
    exact ⟨this.asc, this.le, this.pos, (this.perm.trans rev_perm).trans a2⟩
  · show Got r nrem p (krun (bOf r) (if q' > 0 then _ else _))
    rw [if_neg hq]
    have := tail3_run (n := n') (nrem := nrem) (by omega) (by omega) (by rw [hsz]; exact hs) a1.dsc
    exact ⟨this.asc, this.le, this.pos, this.perm.trans a2⟩
theorem count_run {nrem : Nat} {p : Array Nat} (h2 : 2 ≤ nrem) (hs : nrem ≤ p.size) : Got r nrem p (krun (bOf r) (kas_count nrem p)) := by
  unfold kas_count
  rw [krun_bind]
  obtain ⟨a1, a2, a3⟩ := asc_run (r := r) (p := p) (nrem - 1) 1 (Nat.le_refl _) (fun i j hij hj => by
    have : i = j := by omega
    subst this; exact Nat.le_refl _)
  have stop : ∀ (f n : Nat), 1 ≤ n → krun (bOf r) (kas_asc p f n) < n + f → ka r p (krun (bOf r) (kas_asc p f n)) < ka r p (krun (bOf r) (kas_asc p f n) - 1) := by
    intro f
    induction f with
    | zero => intro n _ h; exact absurd h (Nat.lt_irrefl _)
    | succ f ih =>
      intro n h1 h
      have e : krun (bOf r) (kas_asc p (f + 1) n) = if ka r p n < ka r p (n - 1) then n else krun (bOf r) (kas_asc p f (n + 1)) := by
        show krun (bOf r) (if (bOf r) (p.getD n 0) (p.getD (n - 1) 0) = true then _ else _) = _
        unfold ka
        by_cases c : r (p.getD n 0) < r (p.getD (n - 1) 0)
        · rw [if_pos (decide_eq_true c), if_pos c]; rfl
        · rw [if_neg (fun z => c (of_decide_eq_true z)), if_neg c]
      rw [e] at h ⊢
      by_cases c : ka r p n < ka r p (n - 1)
      · rw [if_pos c]; exact c
      · rw [if_neg c] at h ⊢; exact ih (n + 1) (by omega) (by omega)
  have stop1 := stop (nrem - 1) 1 (Nat.le_refl _)
  generalize krun (bOf r) (kas_asc p (nrem - 1) 1) = n at a1 a2 a3 stop1
  by_cases hn : n = nrem
  · show Got r nrem p (krun (bOf r) (if (n == nrem) = true then _ else _))
    rw [if_pos (by simp [hn])]
    exact ⟨a3, by show n ≤ nrem; omega, a1, Array.Perm.refl _⟩
  · show Got r nrem p (krun (bOf r) (if (n == nrem) = true then _ else _))
    rw [if_neg (by simp [hn])]
    have hlt := stop1 (by omega)
    by_cases h1 : n > 1
    · rw [if_pos h1]
      show Got r nrem p (krun (bOf r) (if (bOf r) (p.getD 0 0) (p.getD (n - 1) 0) = true then _ else _))
      by_cases c : r (p.getD 0 0) < r (p.getD (n - 1) 0)
      · rw [if_pos (decide_eq_true c)]
        exact ⟨a3, by show n ≤ nrem; omega, a1, Array.Perm.refl _⟩
      · rw [if_neg (fun z => c (of_decide_eq_true z))]
        have all : ∀ k, k < n → ka r p k = ka r p (n - 1) := fun k hk => by
          have h3 := a3 0 k (by omega) hk
          have h4 := a3 k (n - 1) (by omega) (by omega)
          have h5 : ka r p (n - 1) ≤ ka r p 0 := Nat.le_of_not_lt c
          omega
        have kr : ∀ k, ka r (kas_rev p 0 n) k = ka r p k := fun k => by
          rw [ka_rev (by omega)]
          split
          · next h => rw [all k h.2, all _ (by omega)]
          · rfl
        have := descPart_run (r := r) (n := n) (nrem := nrem) (p := kas_rev p 0 n) (by omega) (by rw [rev_size]; exact hs) ⟨fun i j hij hj => by
            rw [kr, kr]
            by_cases ej : j = n
            · subst ej
              by_cases ei : i = j
              · subst ei; exact Nat.le_refl _
              · rw [all i (by omega)]; omega
            · rw [all i (by omega), all j (by omega)]; exact Nat.le_refl _, by omega, fun k h3 h4 => by rw [show k = n + 1 - 1 by omega]⟩
        exact ⟨this.asc, this.le, this.pos, this.perm.trans rev_perm⟩
    · rw [if_neg h1]
      have e1 : n = 1 := by omega
      subst e1
      exact descPart_run (by omega) hs ⟨fun i j hij hj => by
          by_cases ej : j = 1
          · subst ej
            by_cases ei : i = 1
            · subst ei; exact Nat.le_refl _
            · rw [show i = 1 - 1 by omega]; omega
          · rw [show i = j by omega]; exact Nat.le_refl _, by omega, fun k h3 h4 => by rw [show k = 1 + 1 - 1 by omega]⟩
theorem place_run {p : Array Nat} {k : Nat} (hp : Asc r p k) : ∀ (f l m : Nat), m - l ≤ f → l ≤ m → m ≤ k → (∀ i, i < l → ka r p i ≤ ka r p k) → (∀ i, m ≤ i → i < k → ka r p k ≤ ka r p i) →
    krun (bOf r) (kas_place p k f l m) ≤ k ∧ (∀ i, i < krun (bOf r) (kas_place p k f l m) → ka r p i ≤ ka r p k) ∧ ∀ i, krun (bOf r) (kas_place p k f l m) ≤ i → i < k → ka r p k ≤ ka r p i
  | 0, l, m, hf, hl, hm, h1, h2 => by
    have : l = m := by omega
    subst this
    exact ⟨by show l ≤ k; omega, h1, h2⟩
  | f + 1, l, m, hf, hl, hm, h1, h2 => by
    by_cases c : l ≥ m
    · have e : krun (bOf r) (kas_place p k (f + 1) l m) = l := by
        show krun (bOf r) (if l ≥ m then _ else _) = l
        rw [if_pos c]; rfl
      rw [e]
      have : l = m := by omega
      subst this
      exact ⟨by omega, h1, h2⟩
    · have e : krun (bOf r) (kas_place p k (f + 1) l m) = if ka r p k < ka r p ((l + m) / 2) then krun (bOf r) (kas_place p k f l ((l + m) / 2)) else krun (bOf r) (kas_place p k f ((l + m) / 2 + 1) m) := by
        show krun (bOf r) (if l ≥ m then _ else _) = _
        rw [if_neg c]
        show krun (bOf r) (if (bOf r) (p.getD k 0) (p.getD ((l + m) / 2) 0) = true then _ else _) = _
        unfold ka
        by_cases d : r (p.getD k 0) < r (p.getD ((l + m) / 2) 0)
        · rw [if_pos (decide_eq_true d), if_pos d]
        · rw [if_neg (fun z => d (of_decide_eq_true z)), if_neg d]
      rw [e]
      by_cases d : ka r p k < ka r p ((l + m) / 2)
      · rw [if_pos d]
        exact place_run hp f l ((l + m) / 2) (by omega) (by omega) (by omega) h1 fun i hi hk => Nat.le_trans (Nat.le_of_lt d) (hp _ i hi hk)
      · rw [if_neg d]
        exact place_run hp f ((l + m) / 2 + 1) m (by omega) (by omega) hm (fun i hi => Nat.le_trans (hp i ((l + m) / 2) (by omega) (by omega)) (by omega)) h2
theorem bin_run : ∀ (f : Nat) (p : Array Nat) (k : Nat), k + f ≤ p.size → Asc r p k → Asc r (krun (bOf r) (kas_bin f p k)) (k + f) ∧ (krun (bOf r) (kas_bin f p k)).Perm p
  | 0, p, k, hs, h => ⟨h, Array.Perm.refl _⟩
  | f + 1, p, k, hs, h => by
    have e : krun (bOf r) (kas_bin (f + 1) p k) = krun (bOf r) (kas_bin f (bubble p k (k - krun (bOf r) (kas_place p k k 0 k))) (k + 1)) := by
      show krun (bOf r) ((kas_place p k k 0 k).bind _) = _
      rw [krun_bind]
    rw [e]
    obtain ⟨l1, l2, l3⟩ := place_run (r := r) h k 0 k (by omega) (by omega) (Nat.le_refl _) (fun i hi => absurd hi (Nat.not_lt_zero _)) (fun i hi hk => absurd hk (by omega))
    generalize krun (bOf r) (kas_place p k k 0 k) = l at l1 l2 l3
    have hb : Asc r (bubble p k (k - l)) (k + 1) := fun i j hij hj => by
      rw [ka_bubble (by omega) (by omega), ka_bubble (by omega) (by omega)]
      have ekl : k - (k - l) = l := by omega
      rw [ekl]
      by_cases ei : i = l
      · rw [if_pos ei]
        by_cases ej : j = l
        · rw [if_pos ej]; exact Nat.le_refl _
        · rw [if_neg ej, if_pos ⟨by omega, by omega⟩]; exact l3 (j - 1) (by omega) (by omega)
      · rw [if_neg ei]
        by_cases ci : l < i ∧ i ≤ k
        · rw [if_pos ci, if_neg (by omega), if_pos ⟨by omega, by omega⟩]; exact h _ _ (by omega) (by omega)
        · rw [if_neg ci]
          by_cases ej : j = l
          · rw [if_pos ej]; exact l2 i (by omega)
          · rw [if_neg ej]
            by_cases cj : l < j ∧ j ≤ k
            · rw [if_pos cj]; exact h _ _ (by omega) (by omega)
            · rw [if_neg cj]; exact h _ _ hij (by omega)
    obtain ⟨b1, b2⟩ := bin_run f (bubble p k (k - l)) (k + 1) (by rw [bubble_size]; omega) hb
    refine ⟨?_, b2.trans (bubble_perm _ _ _)⟩
    rw [show k + (f + 1) = k + 1 + f by omega]; exact b1
theorem sort_run {n : Nat} (h2 : 2 ≤ n) : Asc r (krun (bOf r) (kas_sort n)) n ∧ (krun (bOf r) (kas_sort n)).Perm (List.toArray (List.range n)) := by
  unfold kas_sort
  rw [krun_bind]
  have G := count_run (r := r) (nrem := n) (p := List.toArray (List.range n)) h2 (by simp)
  generalize krun (bOf r) (kas_count n (List.toArray (List.range n))) = g at G
  obtain ⟨m, p⟩ := g
  have hsz : p.size = n := by rw [G.perm.size_eq]; simp
  have hle : m ≤ n := G.le
  have hpos : 1 ≤ m := G.pos
  show Asc r (krun (bOf r) (if m < n then kas_bin (n - max m 1) p (max m 1) else KasT.ret p)) n ∧ Array.Perm (krun (bOf r) (if m < n then kas_bin (n - max m 1) p (max m 1) else KasT.ret p)) (List.toArray (List.range n))
  by_cases c : m < n
  · rw [if_pos c]
    have em : max m 1 = m := by omega
    rw [em]
    obtain ⟨b1, b2⟩ := bin_run (r := r) (n - m) p m (by omega) G.asc
    refine ⟨?_, b2.trans G.perm⟩
    rw [show m + (n - m) = n by omega] at b1; exact b1
  · rw [if_neg c]
    have em : m = n := by omega
    subst em
    exact ⟨G.asc, G.perm⟩
end
end S3
end
section
set_option maxRecDepth 100000
set_option maxHeartbeats 4000000
namespace S3
open PySem PySem.W PyProof.Rows
def okT (n : Nat) {α : Type} (R : α → Prop) : KasT α → Prop
  | .ret a => R a
  | .ask i j k => i < n ∧ j < n ∧ ∀ b, okT n R (k b)
theorem okT_bind {n : Nat} {α β : Type} {R : α → Prop} {R' : β → Prop} {f : α → KasT β} : ∀ {t : KasT α}, okT n R t → (∀ a, R a → okT n R' (f a)) → okT n R' (t.bind f)
  | .ret a, h, k => k a h
  | .ask i j g, h, k => ⟨h.1, h.2.1, fun b => okT_bind (h.2.2 b) k⟩
theorem okT_wp {n : Nat} {α : Type} {R : α → Prop} {cmp : Nat → Nat → (Bool → Shared → Prop) → Shared → Prop} {b : Nat → Nat → Bool} {s : Shared} {Q : α → Shared → Prop} (h : ∀ i j C, i < n → j < n → C (b i j) s → cmp i j C s) :
    ∀ {t : KasT α}, okT n R t → Q (krun b t) s → t.kasWp cmp Q s
  | .ret a, _, q => q
  | .ask i j k, o, q => h i j _ o.1 o.2.1 (okT_wp h (o.2.2 (b i j)) q)
theorem krun_congr {n : Nat} {α : Type} {R : α → Prop} {b b' : Nat → Nat → Bool} (h : ∀ i j, i < n → j < n → b i j = b' i j) : ∀ {t : KasT α}, okT n R t → krun b t = krun b' t
  | .ret a, _ => rfl
  | .ask i j k, o => by
    show krun b (k (b i j)) = krun b' (k (b' i j))
    rw [h i j o.1 o.2.1]
    exact krun_congr h (o.2.2 _)
def In (n : Nat) (p : Array Nat) : Prop := 0 < n ∧ ∀ x ∈ p.toList, x < n
theorem In.get {n : Nat} {p : Array Nat} (h : In n p) (k : Nat) : p.getD k 0 < n := by
  rw [Array.getD_eq_getD_getElem?]
  cases e : p[k]? with
  | none => exact h.1
  | some x => exact h.2 x (by rw [← Array.getElem?_toList] at e; exact List.mem_of_getElem? e)
theorem In.perm {n : Nat} {p q : Array Nat} (h : In n p) (e : q.Perm p) : In n q := ⟨h.1, fun x hx => h.2 x ((Array.Perm.toList e).mem_iff.mp hx)⟩
theorem okT_asc {n : Nat} {p : Array Nat} (h : In n p) : ∀ (f m : Nat), okT n (fun _ => True) (kas_asc p f m)
  | 0, m => trivial
  | f + 1, m => ⟨h.get _, h.get _, fun b => by
      cases b with
      | true => exact trivial
      | false => exact okT_asc h f (m + 1)⟩
theorem okT_desc {n : Nat} : ∀ (f : Nat) (p : Array Nat) (m q : Nat), In n p → okT n (fun r => In n r.1) (kas_desc f p m q)
  | 0, p, m, q, h => h
  | f + 1, p, m, q, h => ⟨h.get _, h.get _, fun b => by
      cases b with
      | true =>
        show okT n _ (if q > 0 then _ else _)
        split
        · exact okT_desc f _ _ _ (h.perm rev_perm)
        · exact okT_desc f _ _ _ h
      | false =>
        refine ⟨h.get _, h.get _, fun b => ?_⟩
        cases b with
        | true => exact h
        | false => exact okT_desc f _ _ _ h⟩
theorem okT_tail3 {n m nrem : Nat} {p : Array Nat} (h : In n p) : okT n (fun r : Nat × Array Nat => In n r.2) (kas_tail3 m nrem p) :=
  okT_bind (okT_asc (h.perm rev_perm) _ _) fun _ _ => h.perm rev_perm
theorem okT_descPart {n m nrem : Nat} {p : Array Nat} (h : In n p) : okT n (fun r : Nat × Array Nat => In n r.2) (kas_descPart m nrem p) :=
  okT_bind (okT_desc _ _ _ _ h) fun a ha => by
    split
    · exact okT_tail3 (ha.perm rev_perm)
    · exact okT_tail3 ha
theorem okT_count {n nrem : Nat} {p : Array Nat} (h : In n p) : okT n (fun r : Nat × Array Nat => In n r.2) (kas_count nrem p) :=
  okT_bind (okT_asc h _ _) fun a _ => by
    split
    · exact h
    · split
      · refine ⟨h.get _, h.get _, fun b => ?_⟩
        cases b with
        | true => exact h
        | false => exact okT_descPart (h.perm rev_perm)
      · exact okT_descPart h
theorem okT_place {n k : Nat} {p : Array Nat} (h : In n p) : ∀ (f l m : Nat), okT n (fun _ => True) (kas_place p k f l m)
  | 0, l, m => trivial
  | f + 1, l, m => by
    show okT n _ (if l ≥ m then _ else _)
    split
    · exact trivial
    · refine ⟨h.get _, h.get _, fun b => ?_⟩
      cases b with
      | true => exact okT_place h f _ _
      | false => exact okT_place h f _ _
theorem okT_bin {n : Nat} : ∀ (f : Nat) (p : Array Nat) (k : Nat), In n p → okT n (In n) (kas_bin f p k)
  | 0, p, k, h => h
  | f + 1, p, k, h => okT_bind (okT_place h _ _ _) fun l _ => okT_bin f _ _ (h.perm (bubble_perm _ _ _))
theorem okT_sort {n : Nat} (hn : 0 < n) : okT n (In n) (kas_sort n) :=
  okT_bind (okT_count ⟨hn, fun x hx => by simpa using hx⟩) fun a ha => by
    split
    · exact okT_bin _ _ _ ha
    · exact ha
theorem count_lt {α : Type} {p q : α → Bool} : ∀ {l : List α} {x : α}, (∀ y ∈ l, p y = true → q y = true) → x ∈ l → p x = false → q x = true → l.countP p < l.countP q
  | y :: l, x, h, hx, hp, hq => by
    have hl : l.countP p ≤ l.countP q := List.countP_mono_left fun z hz => h z (List.mem_cons_of_mem _ hz)
    rw [List.countP_cons, List.countP_cons]
    rcases List.mem_cons.mp hx with e | hx'
    · subst e
      rw [hp, hq]; simp; omega
    · have ih := count_lt (fun z hz => h z (List.mem_cons_of_mem _ hz)) hx' hp hq
      have hy := h y List.mem_cons_self
      cases e1 : p y with
      | true => rw [hy e1]; simp; omega
      | false => simp; split <;> omega
theorem sort_by {n : Nat} {b : Nat → Nat → Bool} (h2 : 2 ≤ n) (irr : ∀ i, i < n → b i i = false) (tr : ∀ i j k, i < n → j < n → k < n → b i j = true → b j k = true → b i k = true) (neg : ∀ i j k, i < n → j < n → k < n → b i k = true → b i j = true ∨ b j k = true) :
    (krun b (kas_sort n)).Perm (List.toArray (List.range n)) ∧ ∀ i j, i ≤ j → j < n → b ((krun b (kas_sort n)).getD j 0) ((krun b (kas_sort n)).getD i 0) = false := by
  let r : Nat → Nat := fun i => (List.range n).countP fun j => b j i
  have hr : ∀ i j, i < n → j < n → b i j = decide (r i < r j) := fun i j hi hj => by
    cases e : b i j with
    | true =>
      refine (decide_eq_true ?_).symm
      exact count_lt (x := i) (fun y hy h => tr y i j (List.mem_range.mp hy) hi hj h e) (List.mem_range.mpr hi) (irr i hi) e
    | false =>
      refine (decide_eq_false (Nat.not_lt.mpr ?_)).symm
      refine List.countP_mono_left fun y hy h => ?_
      rcases neg y i j (List.mem_range.mp hy) hi hj h with z | z
      · exact z
      · rw [e] at z; cases z
  have ek : krun b (kas_sort n) = krun (bOf r) (kas_sort n) := krun_congr hr (okT_sort (by omega))
  obtain ⟨a1, a2⟩ := sort_run (r := r) h2
  rw [ek]
  refine ⟨a2, fun i j hij hj => ?_⟩
  have hin : In n (krun (bOf r) (kas_sort n)) := In.perm ⟨by omega, fun x hx => by simpa using hx⟩ a2
  rw [hr _ _ (hin.get j) (hin.get i)]
  exact decide_eq_false (Nat.not_lt.mpr (a1 i j hij hj))
end S3
end
section
set_option maxRecDepth 100000
set_option maxHeartbeats 4000000
namespace S3
open PySem PySem.Spec PySem.W PyProof.Rows L2
section
variable {prog : Program} {w : World} {A : Around} {E : Value → Shared → Prop} {s : Shared} {Q : Bool → Shared → Prop}
theorem lex_ints {b : Bool} : ∀ {us ws : List Value} {ns ms : List Int} (i : Nat), (b = true ∨ 0 < i ∨ True) → IntsAre us ns → IntsAre ws ms → Q (HT.lexLt ns ms) s →
    KatLex prog w A b (decide (us.length < ws.length)) Q (us.zip ws) i s ∨ us.length ≠ ws.length
  | [], [], ns, ms, i, _, h1, h2, q => by
    cases h1
    cases h2
    exact .inl q
  | [], _ :: _, _, _, _, _, _, _, _ => .inr (by simp)
  | _ :: _, [], _, _, _, _, _, _, _ => .inr (by simp)
  | u :: us, v :: ws, ns, ms, i, hb, h1, h2, q => by
    cases h1 with
    | cons n t h1 =>
    cases h2 with
    | cons k t' h2 =>
      rw [HT.lexLt_cons] at q
      by_cases e : n = k
      · rw [if_pos e] at q
        rcases lex_ints (b := b) (i + 1) (.inr (.inr trivial)) h1 h2 q with z | z
        · refine .inl (kat_cons (wpAny_eqBool_int ?_))
          have : (n == k) = true := by simp [e]
          rw [this]
          refine kat_yes ?_
          show KatLex prog w A b (decide (us.length + 1 < ws.length + 1)) Q (us.zip ws) (i + 1) s
          rw [show decide (us.length + 1 < ws.length + 1) = decide (us.length < ws.length) by simp]
          exact z
        · exact .inr (by simpa using z)
      · rw [if_neg e] at q
        refine .inl (kat_cons (wpAny_eqBool_int ?_))
        have : (n == k) = false := by simp [e]
        rw [this]
        refine kat_no ?_
        cases hbi : (b && i == 0) with
        | true => exact oneLt_int q
        | false => exact kat_one _ _ (lt_int q)
end
structure Tups (h : Heap) (vs : List Value) (nss : List (List Int)) (c : Nat) : Prop where
  len : vs.length = nss.length
  get : ∀ (i : Nat), i < vs.length → ∃ a o us n, vs.getD i Value.none = .ref a ∧ h.get? a = some o ∧ o.cls = .type "tuple" ∧ o.data = .seq us n ∧ IntsAre us.toList (nss.getD i []) ∧ us.size = c + 1
theorem Tups.keep {h h' : Heap} {vs : List Value} {nss : List (List Int)} {c : Nat} (t : Tups h vs nss c) (k : ∀ i a o, i < vs.length → vs.getD i Value.none = .ref a → h.get? a = some o → h'.get? a = some o) : Tups h' vs nss c :=
  ⟨t.len, fun i hi => let ⟨a, o, us, n, e1, e2, r⟩ := t.get i hi; ⟨a, o, us, n, e1, k i a o hi e1 e2, r⟩⟩
theorem Tups.ask {prog : Program} {w : World} {A : Around} {s : Shared} {vs : List Value} {nss : List (List Int)} {c : Nat} (t : Tups s.heap vs nss c) {b : Bool} {i j : Nat} {C : Bool → Shared → Prop} (hi : i < vs.length) (hj : j < vs.length)
    (q : C (HT.lexLt (nss.getD i []) (nss.getD j [])) s) : kas_ask prog w A (tuples' b) vs i j C s := by
  obtain ⟨a, o, us, n, e1, e2, e3, e4, e5, e6⟩ := t.get i hi
  obtain ⟨a', o', us', n', f1, f2, f3, f4, f5, f6⟩ := t.get j hj
  unfold kas_ask
  rw [e1, f1]
  refine kat_lt e2 e4 f2 f4 ?_
  have hz : us.toList.length = us'.toList.length := by simp [e6, f6]
  rcases lex_ints (prog := prog) (w := w) (A := A) (b := b) 0 (.inr (.inr trivial)) e5 f5 q with z | z
  · simpa using z
  · exact absurd hz z
end S3
end
section
set_option maxRecDepth 100000
set_option maxHeartbeats 4000000
namespace S3
open PySem PySem.Spec PyProof.Rows L2
abbrev St := L2.St
def clOf (cells : List (Str × Addr)) : List (Str × NameKind) → List (Str × Addr) → List (Str × Addr)
  | [], cs => cs
  | (n, k) :: r, cs => clOf cells r (if k == .free then (n, (cells.lookup n).getD 0) :: cs else cs)
theorem closure_clOf (scope : Scope) (env : Env) (h : ∀ y ∈ scope.names, y.2 = .free → ∃ c, env.cells.lookup y.1 = some c) : closureFor scope env = pure (clOf env.cells scope.names []) := by
  have go : ∀ (names : List (Str × NameKind)) (cs : List (Str × Addr)), (∀ y ∈ names, y.2 = .free → ∃ c, env.cells.lookup y.1 = some c) →
      (forIn names cs (fun (x : Str × NameKind) (r : List (Str × Addr)) => (if (x.2 == NameKind.free) = true then do let a ← cellOf env x.1; pure (ForInStep.yield ((x.1, a) :: r)) else pure (ForInStep.yield r) : Sem (ForInStep (List (Str × Addr))))) : Sem (List (Str × Addr))) = pure (clOf env.cells names cs) := by
    intro names
    induction names with
    | nil => intro cs _; rfl
    | cons y r ih =>
      intro cs hy
      obtain ⟨n, k⟩ := y
      have hr : ∀ y ∈ r, y.2 = .free → ∃ c, env.cells.lookup y.1 = some c := fun y hm => hy y (List.mem_cons_of_mem _ hm)
      rw [List.forIn_cons]
      by_cases hk : (k == NameKind.free) = true
      · have hk' : k = .free := by simpa using hk
        obtain ⟨c, hc⟩ := hy (n, k) List.mem_cons_self hk'
        have e : cellOf env n = pure c := by unfold cellOf; rw [hc]
        simp only [hk, if_true, e, pure_bind]
        rw [ih _ hr]
        simp only [clOf, hk, if_true, hc, Option.getD_some]
      · have hk2 : (k == NameKind.free) = false := by simpa using hk
        simp only [hk2, Bool.false_eq_true, if_false, pure_bind]
        rw [ih _ hr]
        simp only [clOf, hk2, Bool.false_eq_true, if_false]
  have := go scope.names [] h
  unfold closureFor
  simp only [bind_pure] at *
  exact this
theorem clOf_ok {cells : List (Str × Addr)} : ∀ (names : List (Str × NameKind)) (cs : List (Str × Addr)), (∀ y ∈ names, y.2 = .free → ∃ c, cells.lookup y.1 = some c) → (∀ p ∈ cs, cells.lookup p.1 = some p.2) →
    ∀ p ∈ clOf cells names cs, cells.lookup p.1 = some p.2
  | [], cs, _, h => h
  | (n, k) :: r, cs, hy, h => by
    refine clOf_ok r _ (fun y hm => hy y (List.mem_cons_of_mem _ hm)) fun p hp => ?_
    by_cases hk : (k == NameKind.free) = true
    · rw [if_pos hk] at hp
      rcases List.mem_cons.mp hp with rfl | hp
      · obtain ⟨c, hc⟩ := hy (n, k) List.mem_cons_self (by simpa using hk)
        show cells.lookup n = some ((cells.lookup n).getD 0)
        have hc' : cells.lookup n = some c := hc
        rw [hc']; rfl
      · exact h p hp
    · rw [if_neg hk] at hp; exact h p hp
theorem clOf_mem {cells : List (Str × Addr)} {x : Str} : ∀ (names : List (Str × NameKind)) (cs : List (Str × Addr)), (x, NameKind.free) ∈ names ∨ x ∈ cs.map (·.1) → x ∈ (clOf cells names cs).map (·.1)
  | [], cs, h => by
    rcases h with h | h
    · cases h
    · exact h
  | (n, k) :: r, cs, h => by
    refine clOf_mem r _ ?_
    rcases h with h | h
    · rcases List.mem_cons.mp h with e | h
      · cases e
        refine .inr ?_
        simp
      · exact .inl h
    · refine .inr ?_
      by_cases hk : (k == NameKind.free) = true
      · rw [if_pos hk]; exact List.mem_cons_of_mem _ h
      · rw [if_neg hk]; exact h
theorem lookup_mem {x : Str} {c : Addr} : ∀ {l : List (Str × Addr)}, l.lookup x = some c → (x, c) ∈ l
  | [], h => by cases h
  | (n, a) :: r, h => by
    by_cases e : x == n
    · have e' : x = n := by simpa using e
      rw [List.lookup_cons, e] at h
      have h' : some a = some c := h
      cases h'; subst e'; exact List.mem_cons_self
    · have e2 : (x == n) = false := by simpa using e
      rw [List.lookup_cons, e2] at h
      exact List.mem_cons_of_mem _ (lookup_mem h)
theorem mem_lookup {x : Str} : ∀ {l : List (Str × Addr)}, x ∈ l.map (·.1) → ∃ c, l.lookup x = some c
  | [], h => by cases h
  | (n, a) :: r, h => by
    by_cases e : x == n
    · exact ⟨a, by rw [List.lookup_cons, e]⟩
    · have e2 : (x == n) = false := by simpa using e
      rw [List.lookup_cons, e2]
      refine mem_lookup ?_
      rcases List.mem_cons.mp h with z | z
      · have z' : x = n := z
        subst z'; simp at e
      · exact z
theorem names_lookup_mem {x : Str} {k : NameKind} : ∀ {l : List (Str × NameKind)}, l.lookup x = some k → (x, k) ∈ l
  | [], h => by cases h
  | (n, a) :: r, h => by
    by_cases e : x == n
    · have e' : x = n := by simpa using e
      rw [List.lookup_cons, e] at h
      have h' : some a = some k := h
      cases h'; subst e'; exact List.mem_cons_self
    · have e2 : (x == n) = false := by simpa using e
      rw [List.lookup_cons, e2] at h
      exact List.mem_cons_of_mem _ (names_lookup_mem h)
theorem relabel_kind {env : Env} {x : Str} : ∀ {names : List (Str × NameKind)} {k : NameKind},
    (names.map fun (n, k) => if (k == NameKind.free && env.scope.kind == .function && env.kindOf n == some .cell) then (n, NameKind.cell) else (n, k)).lookup x = some k →
      names.lookup x = some k ∨ (k = .cell ∧ names.lookup x = some .free)
  | [], k, h => by cases h
  | (n, a) :: r, k, h => by
    by_cases e : x == n
    · rw [List.map_cons] at h
      by_cases c : (a == NameKind.free && env.scope.kind == .function && env.kindOf n == some .cell) = true
      · have ha : a = .free := by
          simp only [Bool.and_eq_true, beq_iff_eq] at c; exact c.1.1
        simp only [c, if_true, List.lookup_cons, e] at h
        cases h
        refine .inr ⟨rfl, ?_⟩
        rw [List.lookup_cons, e, ha]
      · have c' : (a == NameKind.free && env.scope.kind == .function && env.kindOf n == some .cell) = false := by simpa using c
        simp only [c', Bool.false_eq_true, if_false, List.lookup_cons, e] at h
        refine .inl ?_
        rw [List.lookup_cons, e]; exact h
    · have e2 : (x == n) = false := by simpa using e
      rw [List.lookup_cons, e2]
      refine relabel_kind (env := env) (names := r) ?_
      rw [List.map_cons] at h
      by_cases c : (a == NameKind.free && env.scope.kind == .function && env.kindOf n == some .cell) = true
      · simp only [c, if_true, List.lookup_cons, e2] at h; exact h
      · have c' : (a == NameKind.free && env.scope.kind == .function && env.kindOf n == some .cell) = false := by simpa using c
        simp only [c', Bool.false_eq_true, if_false, List.lookup_cons, e2] at h; exact h
theorem relabel_free {env : Env} {x : Str} : ∀ {names : List (Str × NameKind)}, names.lookup x = some .free →
    (names.map fun (n, k) => if (k == NameKind.free && env.scope.kind == .function && env.kindOf n == some .cell) then (n, NameKind.cell) else (n, k)).lookup x = some .cell ∨
    (names.map fun (n, k) => if (k == NameKind.free && env.scope.kind == .function && env.kindOf n == some .cell) then (n, NameKind.cell) else (n, k)).lookup x = some .free
  | [], h => by cases h
  | (n, a) :: r, h => by
    rw [List.map_cons]
    by_cases e : x == n
    · rw [List.lookup_cons, e] at h
      have ha : some a = some NameKind.free := h
      cases ha
      by_cases c : (NameKind.free == NameKind.free && env.scope.kind == .function && env.kindOf n == some .cell) = true
      · refine .inl ?_
        simp only [c, if_true, List.lookup_cons, e]
      · have c' : (NameKind.free == NameKind.free && env.scope.kind == .function && env.kindOf n == some .cell) = false := by simpa using c
        refine .inr ?_
        simp only [c', Bool.false_eq_true, if_false, List.lookup_cons, e]
    · have e2 : (x == n) = false := by simpa using e
      rw [List.lookup_cons, e2] at h
      have ih := relabel_free (env := env) h
      by_cases c : (a == NameKind.free && env.scope.kind == .function && env.kindOf n == some .cell) = true
      · simp only [c, if_true, List.lookup_cons, e2]; exact ih
      · have c' : (a == NameKind.free && env.scope.kind == .function && env.kindOf n == some .cell) = false := by simpa using c
        simp only [c', Bool.false_eq_true, if_false, List.lookup_cons, e2]; exact ih
def compCx (X : Cx) (scope : Scope) (Nc : List Str) (C : Addr) (ex : List Addr) (s : Shared) (H : Hp) : Cx :=
  { X with N := Nc, s₀ := s, H₀ := H, env := compEnvC scope (clOf X.env.cells scope.names []) C X.env, outer := X.stack, stack := X.stack, ex := ex, fn := fun _ => false, pn := [], xe := fun _ _ => False }
structure CompScope (X : Cx) (scope : Scope) (Nc : List Str) (js : List (Option Nat)) : Prop where
  kind : scope.kind = .function
  nocell : ∀ y ∈ scope.names, y.2 ≠ .cell
  loc : ∀ y ∈ scope.names, y.2 = .local → scope.names.lookup y.1 = some .local
  free : ∀ y ∈ scope.names, y.2 = .free → X.env.kindOf y.1 = some .cell ∨ X.env.kindOf y.1 = some .free
  len : js.length = Nc.length
  ix : ∀ (i : Nat) (x : Str) (j : Nat), Nc[i]? = some x → js[i]? = some (some j) → X.N[j]? = some x ∧ scope.names.lookup x = some .free
def blk0 (js : List (Option Nat)) (σ : St) : St := js.map fun o => o.bind fun j => (σ[j]?).join
def PTs (X : Cx) (ifs : List Expr) (t : TT) : Prop :=
  ∀ (pins : List (Addr × Obj)) (s : Shared) (σ : St) (H : Hp) (Q : Bool → Hp → Prop), Inv X pins σ H s → t σ H Q →
    wpAny (model X.prog X.w) X.A (forIn ifs true fun c r => if r = true then do let ok ← isTrue c X.env (eval c X.env); pure (ForInStep.yield ok) else pure (ForInStep.yield r)) (TP X pins σ Q) X.xe s
theorem pts_nil {X : Cx} : PTs X [] (fun _ H Q => Q true H) := fun pins s σ H Q I h => wpAny_tests_nil ⟨H, I, h⟩
theorem pts_one {X : Cx} {c : Expr} {t : TT} (h : PT X c t) : PTs X [c] t := fun pins s σ H Q I hw => wpAny_tests_one (h pins s σ H Q I hw)
def tComp (wi : TI) (js : List (Option Nat)) (g : TG) (tt : TT) (te : TE) : TE := fun σ H Q => wi σ H fun J H1 => ∀ p, H1 p = none →
  ∃ W : Nat → Nat → St → Hp → Prop, (∃ m, W 0 m (blk0 js σ) (upd H1 p (.lst []))) ∧ ∀ i m σc Hc, W i m σc Hc →
    (J.stop i Hc ∧ Q (.ref p) Hc) ∨ (J.go i Hc ∧ ∃ N : St → Hp → Prop, (∀ σ' H', N σ' H' → ∃ m', m' < m ∧ W (i + 1) m' σ' H') ∧ ∀ x H', J.yld i Hc x H' → g x σc H' fun σ2 H2 => tt σ2 H2 fun b H3 =>
      if b = true then te σ2 H3 fun y H4 => ∃ xs, H4 p = some (.lst xs) ∧ xs.length < sizeLine ∧ N σ2 (upd H4 p (.lst (xs ++ [y]))) else N σ2 H3)
section
variable {X : Cx} {scope : Scope} {Nc : List Str} {js : List (Option Nat)} {pins : List (Addr × Obj)} {σ : St} {H : Hp} {s : Shared}
theorem CompScope.has (c : CompScope X scope Nc js) (ok : X.Ok) : ∀ y ∈ scope.names, y.2 = .free → ∃ a, X.env.cells.lookup y.1 = some a := fun y hy e => ok.has y.1 (c.free y hy e)
theorem comp_start {C : Addr} {ex : List Addr} {h1 : Heap} {tk : Nat} (c : CompScope X scope Nc js) (I : Inv X pins σ H s) (hex : ∀ b ∈ ex, FpOk X pins H b) (hlt : ∀ b ∈ ex, b < s.heap.objs.size)
    (hC : C = s.heap.objs.size) (hn : h1.Ns C (fun _ => none)) (hs : ∀ b o, s.heap.get? b = some o → h1.get? b = some o) :
    Inv (compCx X scope Nc C ex s H) [] (blk0 js σ) H { s with heap := h1, toks := tk } := by
  have hcl := clOf_ok (cells := X.env.cells) scope.names [] (c.has I.ok) (fun _ z => nomatch z)
  have cl_lk : ∀ x a, (clOf X.env.cells scope.names []).lookup x = some a → X.env.cells.lookup x = some a := fun x a e => hcl _ (lookup_mem e)
  have lt_ne : ∀ b o, s.heap.get? b = some o → b ≠ C := fun b o e => by rw [hC]; exact Nat.ne_of_lt (Heap.lt_size e)
  refine ⟨⟨I.ok.mod, c.kind, I.ok.glob, I.ok.blt, Nat.le_of_eq hC.symm, fun x y a e1 e2 => I.ok.inj x y a (cl_lk x a e1) (cl_lk y a e2), fun x hk => ?_, fun x a z => Bool.noConfusion z, I.ok.hd, I.ok.frames, .inl rfl, fun b hb => ⟨?_, fun x a e z => ?_⟩,
    I.bs, Nat.le_trans I.ok.bsz I.sz, fun b o e hb => ?_, fun b hb z => ?_, I.stack, I.stkFree⟩, rfl, I.bare, Un.kept hs, ⟨_, hn, fun i x v e1 e2 e3 => ?_⟩, fun x a e => ?_, ?_, fun x a e => I.freeC x a (cl_lk x a e), (fun p hp => nomatch hp), I.hok.kept hs, ?_⟩
  · -- names that are cells here have one
    have hk' : scope.names.lookup x = some .free := by
      rcases hk with hk | hk
      · rcases relabel_kind (env := X.env) (names := scope.names) hk with z | ⟨_, z⟩
        · exact absurd rfl (c.nocell _ (names_lookup_mem z))
        · exact z
      · rcases relabel_kind (env := X.env) (names := scope.names) hk with z | ⟨z, _⟩
        · exact z
        · cases z
    exact mem_lookup (clOf_mem scope.names [] (.inl (names_lookup_mem hk')))
  · show b ≠ C
    rw [hC]; exact Nat.ne_of_lt (hlt b hb)
  · exact (hex b hb).2.2.2.2.1 x a (cl_lk x a e) z
  · have : b < X.base.objs.size := Heap.lt_size e
    rcases (hex b hb).2.2.2.1 with z | z
    · exact I.ok.noex b o e z
    · exact absurd (Nat.lt_of_lt_of_le this (Nat.le_trans I.ok.bsz z)) (Nat.lt_irrefl _)
  · rcases List.mem_cons.mp (I.stkSub b z) with e | e
    · exact (hex b hb).2.1 e
    · exact (hex b hb).2.2.1 e
  · -- the names that are read from around
    have e1' : Nc[i]? = some x := e1
    have : ∃ j, js[i]? = some (some j) ∧ σ[j]? = some (some v) := by
      unfold blk0 at e2
      rw [List.getElem?_map] at e2
      cases q : js[i]? with
      | none => rw [q] at e2; cases e2
      | some o =>
        rw [q] at e2
        cases o with
        | none => cases e2
        | some j =>
          refine ⟨j, rfl, ?_⟩
          have e2' : (σ[j]?).join = some v := Option.some.inj e2
          cases r : σ[j]? with
          | none => rw [r] at e2'; cases e2'
          | some z => rw [r] at e2'; exact congrArg some e2'
    obtain ⟨j, hj, hv⟩ := this
    obtain ⟨hN, hfr⟩ := c.ix i x j e1' hj
    obtain ⟨m, hnm, hl⟩ := I.loc
    have hkf := c.free (x, .free) (names_lookup_mem hfr) rfl
    have hvis : Vis X.env.scope x := by
      rcases hkf with z | z
      · exact .inr (.inl z)
      · exact .inr (.inr z)
    obtain ⟨u, ru, lk⟩ := hl j x v hN hv hvis
    refine ⟨u, ru, .inr ⟨?_, ?_⟩⟩
    · rcases relabel_free (env := X.env) hfr with z | z
      · exact .inl z
      · exact .inr z
    · rcases lk with ⟨z, _⟩ | ⟨_, a, ea, ha⟩
      · rcases hkf with y | y
        · rw [show X.env.kindOf x = some NameKind.cell from y] at z; cases z
        · rw [show X.env.kindOf x = some NameKind.free from y] at z; cases z
      · obtain ⟨b, hb⟩ := mem_lookup (clOf_mem (cells := X.env.cells) scope.names [] (.inl (names_lookup_mem hfr)))
        have := cl_lk x b hb
        rw [ea] at this; cases this
        obtain ⟨oc, ho, hd⟩ := ha
        exact ⟨a, hb, oc, hs _ _ ho, hd⟩
  · obtain ⟨v, oc, ho, hd⟩ := I.cell x a (cl_lk x a e)
    exact ⟨v, oc, hs _ _ ho, hd⟩
  · show H C = none
    rw [hC]; exact I.hok.fresh (Nat.le_refl _)
  · show (blk0 js σ).length = Nc.length
    unfold blk0
    rw [List.length_map]; exact c.len
theorem comp_end {C : Addr} {ex : List Addr} {σc : St} {H' : Hp} {s' : Shared} {h2 : Heap} (I : Inv X pins σ H s) (hC : C = s.heap.objs.size) (hex : ∀ b ∈ ex, FpOk X pins H b)
    (Ic : Inv (compCx X scope Nc C ex s H) [] σc H' s') (hs : Heap.SameBut C s'.heap h2) : Inv X pins σ H' { s' with heap := h2 } := by
  have hne : ∀ b o, s.heap.get? b = some o → b ≠ C := fun b o e => by rw [hC]; exact Nat.ne_of_lt (Heap.lt_size e)
  have B := Ic.base
  have u : Un (frs X.stack) ex H H' s.heap h2 := {
    keep := fun b o e n hb hx => (hs.2 b (hne b o e)).trans (B.keep b o e n hb hx)
    slot := fun b o e n hb hx => by
      obtain ⟨sl, q⟩ := B.slot b o e n hb hx
      exact ⟨sl, (hs.2 b (hne b o e)).trans q⟩
    free := B.free
    there := fun b o e hx => by
      obtain ⟨o', q⟩ := B.there b o e hx
      exact ⟨o', (hs.2 b (hne b o e)).trans q⟩
    tups := B.tups
    frzs := B.frzs
    tbls := B.tbls }
  refine I.call' (s' := { s' with heap := h2 }) (ch := ex) Ic.os u (fun b o e => ?_) Ic.bare fun b hb => ⟨(hex b hb).2.2.2.1, (hex b hb).2.1, (hex b hb).2.2.2.2.1, (hex b hb).2.2.2.2.2⟩
  have nC : ∀ b o, H' b = some o → b ≠ C := fun b o e z => by
    have hf : H' C = none := Ic.free
    rw [z, hf] at e; cases e
  refine (Ic.hok b o e).stay (fun d v hd q => ?_) (fun _ q => q) fun _ _ q => q
  refine (hs.2 d ?_).trans q
  rcases hd with z | z
  · subst z; exact nC _ _ e
  · exact nC _ _ z
theorem comp_run {elt tg iter : Expr} {ifs : List Expr} {pos pos' : Pos} {wi : TI} {g : TG} {tt : TT} {te : TE} {Q : VK} (use : Option (Value → Sem Unit)) (Qr : Value → Shared → Prop) (c : CompScope X scope Nc js) (hc : X.calm = true) (hi : PI X tg iter wi)
    (hin : ∀ C ex s H, PG (compCx X scope Nc C ex s H) tg g ∧ PTs (compCx X scope Nc C ex s H) ifs tt ∧ PE (compCx X scope Nc C ex s H) elt te)
    (I : Inv X pins σ H s) (h : tComp wi js g tt te σ H Q)
    (hfin : ∀ p C s' H', Q (.ref p) H' → (∀ h2, Heap.SameBut C s'.heap h2 → Inv X pins σ H' { s' with heap := h2 }) → (∃ m, s'.heap.Ns C m) → FpOk X pins H' C →
      compPost (model X.prog X.w) X.A X.xe use Qr (.ref p) C (.ok .next) s')
    (hs : ∀ x, foldedSetIterable iter X.env x = pure x := by intro _; rfl) :
    wpAny (model X.prog X.w) X.A (comprehension (.ListComp elt [⟨tg, iter, ifs, 0⟩] scope pos) scope X.env pos' (newList []) false (eval iter X.env) use) Qr X.xe s := by
  refine wpAny_comprehension_free rfl hs (closure_clOf scope X.env (c.has I.ok)) c.kind c.loc (thn (hi pins s σ H _ I h) fun v s1 h1 => thn h1 fun itv s2 h2 => ?_)
  obtain ⟨it, fp, tn, J, H2, e, I2, T, st2, f2, hW⟩ := h2
  subst e
  refine wpAny_newObj_type (wpAny_newFunctionEnv c.nocell (by intro y hy; simp at hy) (fun h1 hns1 hsb1 => ?_) c.kind)
  dsimp only at hns1 hsb1 ⊢
  obtain ⟨W, ⟨m0, w0⟩, turn⟩ := hW s2.heap.objs.size (I2.hok.fresh (Nat.le_refl _))
  have I3 : Inv X pins σ (upd H2 s2.heap.objs.size (.lst [])) { s2 with heap := s2.heap.push { cls := .type "list", dict := none, data := .seq ([] : List Value).toArray } } :=
    I2.laid (t' := s2.toks) (fun _ _ q => Heap.get?_push_of_some _ q) (Nat.le_refl _) ⟨Nat.zero_le _, [], 0, .nil, Heap.get?_push_size _ rfl⟩
  generalize hS3 : ({ s2 with heap := s2.heap.push { cls := .type "list", dict := none, data := .seq ([] : List Value).toArray } } : Shared) = s3 at I3
  have e3 : s3.heap = s2.heap.push { cls := .type "list", dict := none, data := .seq ([] : List Value).toArray } := by rw [← hS3]
  rw [← e3] at hns1 hsb1 ⊢
  generalize hp : s2.heap.objs.size = p at *
  have flt : ∀ b ∈ fp, b < p := fun b hb => by
    obtain ⟨o, e, _⟩ := T.obj _ _ st2 b hb
    rw [← hp]; exact Heap.lt_size e
  have fne : ∀ b ∈ fp, b ≠ p := fun b hb => Nat.ne_of_lt (flt b hb)
  have f3 : ∀ b ∈ fp, FpOk X pins (upd H2 p (.lst [])) b := fun b hb => ⟨by rw [upd_ne (fne b hb)]; exact (f2 b hb).1, (f2 b hb).2⟩
  have hsz3 : s3.heap.objs.size = p + 1 := by rw [e3, Heap.size_push, hp]
  have flt3 : ∀ b ∈ fp, b < s3.heap.objs.size := fun b hb => by rw [hsz3]; exact Nat.lt_succ_of_lt (flt b hb)
  have keep1 : ∀ b o, s3.heap.get? b = some o → h1.get? b = some o := fun b o e => hsb1.extBut b o (Nat.ne_of_lt (Heap.lt_size e)) (Heap.get?_push_of_some _ e)
  have st1 : tn 0 h1 := T.keep _ _ _ st2 fun b hb o e => keep1 b o (by rw [e3]; exact Heap.get?_push_of_some _ e)
  generalize hC : s3.heap.objs.size = C at *
  have hns : h1.Ns C (fun _ => none) := by simpa using hns1
  have start : ∀ tk, Inv (compCx X scope Nc C fp s3 (upd H2 p (.lst []))) [] (blk0 js σ) (upd H2 p (.lst [])) { s3 with heap := h1, toks := tk } := fun tk => comp_start c I3 f3 (fun b hb => by rw [hC]; exact flt3 b hb) hC.symm hns keep1
  have ok := (start 0).ok
  have stat : ∀ {H' : Hp}, (∀ b ∈ fp, H' b = none) → ∀ b ∈ fp, FpOk (compCx X scope Nc C fp s3 (upd H2 p (.lst []))) [] H' b := fun hn b hb =>
    ⟨hn b hb, (ok.exf b hb).1, ok.exfs b hb, .inl hb, (ok.exf b hb).2, fun _ z => nomatch z⟩
  obtain ⟨hG, hT, hE⟩ := hin C fp s3 (upd H2 p (.lst []))
  have loop : ∀ s' : Shared, Inv (compCx X scope Nc C fp s3 (upd H2 p (.lst []))) [] (blk0 js σ) (upd H2 p (.lst [])) s' → tn 0 s'.heap →
      codeAny (model X.prog X.w) X.A (.compLoop (.ListComp elt [⟨tg, iter, ifs, 0⟩] scope pos) 0 (.ref it) (.ref p) (compCx X scope Nc C fp s3 (upd H2 p (.lst []))).env) (compPost (model X.prog X.w) X.A X.xe use Qr (.ref p) C) s' := by
    intro s' I' st'
    refine codeAny_loop rfl (fun n s' => ∃ i σ' H', Inv (compCx X scope Nc C fp s3 (upd H2 p (.lst []))) [] σ' H' s' ∧ tn i s'.heap ∧ (∀ b ∈ fp, H' b = none) ∧ W i n σ' H') ?_ m0 ⟨0, _, _, I', st', fun b hb => (f3 b hb).1, w0⟩
    rintro n s4 ⟨i, σ4, H4, I4, st4, fr4, w4⟩
    show wpAny _ X.A ((compTurn (.ListComp elt [⟨tg, iter, ifs, 0⟩] scope pos) 0 (.ref it) (.ref p) (compCx X scope Nc C fp s3 (upd H2 p (.lst []))).env).onRaise (fun x => do noteFrame x (compCx X scope Nc C fp s3 (upd H2 p (.lst []))).env; theTreesLotGoes x)) _ _ s4
    refine wpAny_noted ?_
    rw [compTurn_list]
    refine wpAny_bind (wpAny_standAt (wpAny_bind ?_))
    rcases turn i n σ4 H4 w4 with ⟨stop, qn⟩ | ⟨go, N, hN, step⟩
    · refine wpAny_mono (T.done (compCx X scope Nc C fp s3 (upd H2 p (.lst []))) rfl rfl rfl hc i [] s4 σ4 H4 (fun _ _ => False) I4 (stat fr4) st4 stop) (fun r s5 ⟨hr, I5⟩ => ?_) fun _ _ z => z.elim
      subst hr
      refine wpAny_pure (hfin p C s5 H4 qn (fun h2 hsb => comp_end I3 hC.symm f3 I5 hsb) ?_ (I3.fpOk (Nat.le_of_eq hC) I5.free))
      obtain ⟨m, hm, _⟩ := I5.loc
      exact ⟨m, hm⟩
    · refine wpAny_mono (T.item (compCx X scope Nc C fp s3 (upd H2 p (.lst []))) rfl rfl rfl hc i [] s4 σ4 H4 (fun _ _ => False) I4 (stat fr4) st4 go) (fun r s5 ⟨u, hr, h5⟩ => ?_) fun _ _ z => z.elim
      subst hr
      refine wpAny_bind (wpAny_mono h5 (fun _ s6 ⟨x, H6, I6, r6, y6, st6, fr6⟩ => ?_) fun _ _ z => z.elim)
      have I6' := I6.pinned (stat fr6) (T.obj _ _ st6)
      refine wpAny_bind (wpAny_mono (hG _ s6 σ4 H6 x u _ I6' r6 (step x H6 y6)) (fun _ s7 ⟨σ7, H7, I7, q7⟩ => ?_) fun _ _ z => z.elim)
      refine wpAny_bind (wpAny_mono (hT _ s7 σ7 H7 _ I7 q7) (fun b s8 ⟨H8, I8, q8⟩ => ?_) fun _ _ z => z.elim)
      have again : ∀ {σ9 : St} {H9 : Hp} {s9 : Shared}, Inv (compCx X scope Nc C fp s3 (upd H2 p (.lst []))) ([] ++ pinsAt fp s6.heap) σ9 H9 s9 → N σ9 H9 →
          ∃ m, m < n ∧ ∃ i σ' H', Inv (compCx X scope Nc C fp s3 (upd H2 p (.lst []))) [] σ' H' s9 ∧ tn i s9.heap ∧ (∀ b ∈ fp, H' b = none) ∧ W i m σ' H' := fun {σ9 H9 s9} I9 n9 => by
        obtain ⟨m', hm, w9⟩ := hN σ9 H9 n9
        refine ⟨m', hm, i + 1, σ9, H9, I9.unpinned, T.keep _ _ _ st6 fun b hb o e => (I9.pin (b, o) (List.mem_append_right _ (List.mem_append_right _ (mem_pinsAt hb e)))).1, fun b hb => ?_, w9⟩
        obtain ⟨o, e, d⟩ := T.obj _ _ st6 b hb
        exact (I9.pin (b, o) (List.mem_append_right _ (List.mem_append_right _ (mem_pinsAt hb e)))).2.1
      cases b with
      | false => exact wpAny_pure ⟨rfl, again I8 q8⟩
      | true =>
        refine wpAny_bind (wpAny_bind (wpAny_mono (hE _ s8 σ7 H8 _ I8 q8) (fun y s9 ⟨yv, H9, I9, r9, q9⟩ => ?_) fun _ _ z => z.elim))
        obtain ⟨xs, hx, hl, n9⟩ := q9
        refine wpAny_bind (wpAny_mono (mt_append (X := compCx X scope Nc C fp s3 (upd H2 p (.lst []))) _ s9 σ7 H9 (.ref p) [yv] (.ref p) [y] (fun _ H' => N σ7 H') I9 rfl (.cons r9 .nil) ⟨p, xs, yv, rfl, rfl, hx, hl, n9⟩) (fun _ s10 ⟨_, H10, I10, _, q10⟩ => ?_) fun _ _ z => z.elim)
        exact wpAny_pure (wpAny_pure ⟨rfl, again I10 q10⟩)
  refine codeAny_compStart_list (loop _ ?_ ?_) (T.self _ 0 _ _ _ ?_ (loop _ ?_ ?_))
  all_goals first
    | exact st1
    | (subst hS3; exact start _)
theorem pe_comp {elt tg iter : Expr} {ifs : List Expr} {pos : Pos} {wi : TI} {g : TG} {tt : TT} {te : TE} (c : CompScope X scope Nc js) (hc : X.calm = true) (hi : PI X tg iter wi)
    (hin : ∀ C ex s H, PG (compCx X scope Nc C ex s H) tg g ∧ PTs (compCx X scope Nc C ex s H) ifs tt ∧ PE (compCx X scope Nc C ex s H) elt te)
    (hs : ∀ x, foldedSetIterable iter X.env x = pure x := by intro _; rfl) : PE X (.ListComp elt [⟨tg, iter, ifs, 0⟩] scope pos) (tComp wi js g tt te) := by
  intro pins s σ H Q I h
  rw [eval_ListComp]
  refine comp_run none _ c hc hi hin I h (fun p C s' H' q hI hn _ => ?_) hs
  obtain ⟨m, hm⟩ := hn
  exact ⟨m, hm, fun h2 hsb => ⟨.ref p, H', hI h2 hsb, rfl, q⟩⟩
end
end S3
end
section
set_option maxRecDepth 100000
set_option maxHeartbeats 4000000
namespace S3
open PySem PySem.Spec PyProof.Rows L2
inductive D where
  | non | bl (b : Bool) | int (i : Int) | str (x : Str) | tup (ds : List D) | lst (k : Nat) | ro (ds : List D) | emp
abbrev Store := List (List D)
inductive Res (α : Type) where
  | ok (a : α) | ex (x : D)
def M (α : Type) := Store → Option (Res α × Store)
namespace M
def ret {α : Type} (a : α) : M α := fun S => some (.ok a, S)
def bnd {α β : Type} (m : M α) (f : α → M β) : M β := fun S => match m S with
  | some (.ok a, S') => f a S'
  | some (.ex x, S') => some (.ex x, S')
  | none => none
def fail {α : Type} : M α := fun _ => none
def raise {α : Type} (x : D) : M α := fun S => some (.ex x, S)
instance : Monad M where
  pure := ret
  bind := bnd
end M
def KnL (K : PySem.W.Frag) (a : Addr) (xs : List V) : Prop := ∃ (o : Obj) (its : Array Value) (n : Nat), K.lookup a = some o ∧ o.cls = .type "list" ∧ o.dict = none ∧ o.data = .seq its n ∧ its.size ≤ sizeLine ∧ Vals xs its.toList
def Ron (K : PySem.W.Frag) (H : Hp) (a : Addr) (vs : List V) : Prop := (∃ o, H a = some (.frz o (.lst vs))) ∨ KnL K a vs
theorem Ron.sq {K : PySem.W.Frag} {H : Hp} {a : Addr} {vs : List V} (h : Ron K H a vs) : SqL K H a vs := h.imp (fun ⟨o, e⟩ => .inr ⟨o, e⟩) fun z => z
mutual
inductive RelD (K : PySem.W.Frag) (ι : List Addr) (H : Hp) : D → V → Prop where
  | non : RelD K ι H .non .non
  | bl (b : Bool) : RelD K ι H (.bl b) (.bl b)
  | int (i : Int) : RelD K ι H (.int i) (.int i)
  | str (x : Str) : RelD K ι H (.str x) (.str x)
  | tup {a : Addr} {ds : List D} {vs : List V} : H a = some (.tup vs) → RelDs K ι H ds vs → RelD K ι H (.tup ds) (.ref a)
  | lst {a : Addr} {k : Nat} : ι[k]? = some a → RelD K ι H (.lst k) (.ref a)
  | ro {a : Addr} {ds : List D} {vs : List V} : Ron K H a vs → RelDs K ι H ds vs → RelD K ι H (.ro ds) (.ref a)
  | emp {a : Addr} : H a = some (.dK []) → RelD K ι H .emp (.ref a)
inductive RelDs (K : PySem.W.Frag) (ι : List Addr) (H : Hp) : List D → List V → Prop where
  | nil : RelDs K ι H [] []
  | cons {d : D} {v : V} {ds : List D} {vs : List V} : RelD K ι H d v → RelDs K ι H ds vs → RelDs K ι H (d :: ds) (v :: vs)
end
structure Rep (K : PySem.W.Frag) (ι : List Addr) (H : Hp) (S : Store) : Prop where
  nd : ι.Nodup
  len : ι.length = S.length
  get : ∀ (k : Nat) (a : Addr) (xs : List D), ι[k]? = some a → S[k]? = some xs → ∃ vs, H a = some (.lst vs) ∧ RelDs K ι H xs vs
structure Ext (ι : List Addr) (H : Hp) (ι' : List Addr) (H' : Hp) : Prop where
  ids : ∃ more, ι' = ι ++ more
  oth : ∀ a o, H a = some o → a ∉ ι → H' a = some o ∧ a ∉ ι'
theorem Ext.refl {ι : List Addr} {H : Hp} : Ext ι H ι H := ⟨⟨[], by simp⟩, fun _ _ h n => ⟨h, n⟩⟩
theorem Ext.trans {ι ι1 ι2 : List Addr} {H H1 H2 : Hp} (a : Ext ι H ι1 H1) (b : Ext ι1 H1 ι2 H2) : Ext ι H ι2 H2 := by
  obtain ⟨m1, e1⟩ := a.ids
  obtain ⟨m2, e2⟩ := b.ids
  exact ⟨⟨m1 ++ m2, by rw [e2, e1, List.append_assoc]⟩, fun c o h n => let ⟨h1, n1⟩ := a.oth c o h n; b.oth c o h1 n1⟩
theorem Ext.at {ι ι' : List Addr} {H H' : Hp} (e : Ext ι H ι' H') {k : Nat} {a : Addr} (h : ι[k]? = some a) : ι'[k]? = some a := by
  obtain ⟨m, rfl⟩ := e.ids
  have hl : k < ι.length := (List.getElem?_eq_some_iff.mp h).1
  rw [List.getElem?_append_left hl]; exact h
section
variable {K : PySem.W.Frag} {ι ι' : List Addr} {H H' : Hp} {S : Store}
theorem Rep.isL (r : Rep K ι H S) {a : Addr} (h : a ∈ ι) : ∃ vs, H a = some (.lst vs) := by
  obtain ⟨k, hk, e⟩ := List.mem_iff_getElem.mp h
  have hk' : k < S.length := by rw [← r.len]; exact hk
  obtain ⟨vs, h1, _⟩ := r.get k a (S[k]) (by rw [List.getElem?_eq_getElem hk, e]) (List.getElem?_eq_getElem hk')
  exact ⟨vs, h1⟩
theorem Rep.notIn (r : Rep K ι H S) {a : Addr} {o : HO} (h : H a = some o) (hn : ∀ vs, o ≠ .lst vs) : a ∉ ι := fun z => by
  obtain ⟨vs, e⟩ := r.isL z
  rw [h] at e; exact hn vs (Option.some.inj e)
theorem Rep.free (r : Rep K ι H S) {a : Addr} (h : H a = none) : a ∉ ι := fun z => by
  obtain ⟨vs, e⟩ := r.isL z
  rw [h] at e; cases e
mutual
theorem RelD.later (r : Rep K ι H S) (e : Ext ι H ι' H') : ∀ {d : D} {v : V}, RelD K ι H d v → RelD K ι' H' d v
  | _, _, .non => .non
  | _, _, .bl b => .bl b
  | _, _, .int i => .int i
  | _, _, .str x => .str x
  | _, _, .tup h hs => .tup (e.oth _ _ h (r.notIn h (by intro _ z; cases z))).1 (RelDs.later r e hs)
  | _, _, .lst h => .lst (e.at h)
  | _, _, .ro h hs => .ro (h.imp (fun ⟨o, h⟩ => ⟨o, (e.oth _ _ h (r.notIn h (by intro _ z; cases z))).1⟩) fun z => z) (RelDs.later r e hs)
  | _, _, .emp h => .emp (e.oth _ _ h (r.notIn h (by intro _ z; cases z))).1
theorem RelDs.later (r : Rep K ι H S) (e : Ext ι H ι' H') : ∀ {ds : List D} {vs : List V}, RelDs K ι H ds vs → RelDs K ι' H' ds vs
  | _, _, .nil => .nil
  | _, _, .cons h hs => .cons (RelD.later r e h) (RelDs.later r e hs)
end
theorem RelDs.length : ∀ {ds : List D} {vs : List V}, RelDs K ι H ds vs → ds.length = vs.length
  | _, _, .nil => rfl
  | _, _, .cons _ t => by rw [List.length_cons, List.length_cons, RelDs.length t]
theorem RelDs.append : ∀ {ds es : List D} {vs ws : List V}, RelDs K ι H ds vs → RelDs K ι H es ws → RelDs K ι H (ds ++ es) (vs ++ ws)
  | _, _, _, _, .nil, s => s
  | _, _, _, _, .cons r t, s => .cons r (RelDs.append t s)
theorem RelDs.get : ∀ {ds : List D} {vs : List V} {i : Nat} {v : V}, RelDs K ι H ds vs → vs[i]? = some v → ∃ d, ds[i]? = some d ∧ RelD K ι H d v
  | _, _, _, _, .nil, e => by simp at e
  | _, _, 0, _, .cons r _, e => by simp at e; subst e; exact ⟨_, rfl, r⟩
  | _, _, i + 1, v, .cons _ t, e => by
    obtain ⟨u, h1, h2⟩ := RelDs.get (i := i) (v := v) t (by simpa using e)
    exact ⟨u, by simpa using h1, h2⟩
theorem RelDs.get' : ∀ {ds : List D} {vs : List V} {i : Nat} {d : D}, RelDs K ι H ds vs → ds[i]? = some d → ∃ v, vs[i]? = some v ∧ RelD K ι H d v
  | _, _, _, _, .nil, e => by simp at e
  | _, _, 0, _, .cons r _, e => by simp at e; subst e; exact ⟨_, rfl, r⟩
  | _, _, i + 1, v, .cons _ t, e => by
    obtain ⟨u, h1, h2⟩ := RelDs.get' (i := i) t (by simpa using e)
    exact ⟨u, by simpa using h1, h2⟩
theorem RelDs.take : ∀ {ds : List D} {vs : List V} (n : Nat), RelDs K ι H ds vs → RelDs K ι H (ds.take n) (vs.take n)
  | _, _, 0, _ => .nil
  | _, _, _ + 1, .nil => .nil
  | _, _, n + 1, .cons r t => .cons r (RelDs.take n t)
theorem RelDs.drop : ∀ {ds : List D} {vs : List V} (n : Nat), RelDs K ι H ds vs → RelDs K ι H (ds.drop n) (vs.drop n)
  | _, _, 0, r => r
  | _, _, _ + 1, .nil => .nil
  | _, _, n + 1, .cons _ t => RelDs.drop n t
theorem RelDs.set {d : D} {v : V} (r : RelD K ι H d v) : ∀ {ds : List D} {vs : List V} (i : Nat), RelDs K ι H ds vs → RelDs K ι H (ds.set i d) (vs.set i v)
  | _, _, _, .nil => .nil
  | _, _, 0, .cons _ t => .cons r t
  | _, _, i + 1, .cons q t => .cons q (RelDs.set r i t)
theorem RelDs.eraseIdx : ∀ {ds : List D} {vs : List V} (i : Nat), RelDs K ι H ds vs → RelDs K ι H (ds.eraseIdx i) (vs.eraseIdx i)
  | _, _, _, .nil => .nil
  | _, _, 0, .cons _ t => t
  | _, _, i + 1, .cons q t => .cons q (RelDs.eraseIdx i t)
theorem RelDs.reverse : ∀ {ds : List D} {vs : List V}, RelDs K ι H ds vs → RelDs K ι H ds.reverse vs.reverse
  | _, _, .nil => .nil
  | _, _, .cons r t => by rw [List.reverse_cons, List.reverse_cons]; exact (RelDs.reverse t).append (.cons r .nil)
theorem ext_new {p : Addr} {o : HO} (hp : H p = none) : Ext ι H ι (upd H p o) := ⟨⟨[], by simp⟩, fun a o' h n => ⟨by rw [upd_ne (ne_of_none h hp)]; exact h, n⟩⟩
theorem rep_new {p : Addr} {o : HO} (r : Rep K ι H S) (hp : H p = none) : Rep K ι (upd H p o) S := by
  refine ⟨r.nd, r.len, fun k a xs e1 e2 => ?_⟩
  obtain ⟨vs, h1, h2⟩ := r.get k a xs e1 e2
  exact ⟨vs, by rw [upd_ne (ne_of_none h1 hp)]; exact h1, RelDs.later r (ext_new hp) h2⟩
theorem ext_list {p : Addr} {o : HO} (hp : H p = none) : Ext ι H (ι ++ [p]) (upd H p o) := ⟨⟨[p], rfl⟩, fun a o' h n => ⟨by rw [upd_ne (ne_of_none h hp)]; exact h, by
  have : a ≠ p := ne_of_none h hp
  simp [n, this]⟩⟩
theorem rep_list {p : Addr} {xs : List D} {vs : List V} (r : Rep K ι H S) (hp : H p = none) (h : RelDs K ι H xs vs) : Rep K (ι ++ [p]) (upd H p (.lst vs)) (S ++ [xs]) := by
  have hE : Ext ι H (ι ++ [p]) (upd H p (.lst vs)) := ext_list hp
  refine ⟨?_, by simp [r.len], fun k a ys e1 e2 => ?_⟩
  · rw [List.nodup_append]
    refine ⟨r.nd, by simp, fun a ha b hb => ?_⟩
    have : b = p := by simpa using hb
    subst this
    rintro rfl
    exact r.free hp ha
  · by_cases hk : k < ι.length
    · rw [List.getElem?_append_left hk] at e1
      rw [List.getElem?_append_left (by rw [← r.len]; exact hk)] at e2
      obtain ⟨ws, h1, h2⟩ := r.get k a ys e1 e2
      exact ⟨ws, by rw [upd_ne (ne_of_none h1 hp)]; exact h1, RelDs.later r hE h2⟩
    · have hk1 : k < (ι ++ [p]).length := (List.getElem?_eq_some_iff.mp e1).1
      have : k = ι.length := by simp at hk1; omega
      subst this
      simp at e1
      rw [r.len] at e2
      simp at e2
      subst e1 e2
      exact ⟨vs, upd_same, RelDs.later r hE h⟩
theorem nodup_at : ∀ {l : List Addr} {i j : Nat} {a : Addr}, l.Nodup → l[i]? = some a → l[j]? = some a → i = j
  | [], i, j, a, _, h, _ => by simp at h
  | x :: r, 0, 0, a, _, _, _ => rfl
  | x :: r, 0, j + 1, a, hn, h1, h2 => by
    simp at h1 h2
    subst h1
    exact absurd (List.mem_of_getElem? h2) (List.nodup_cons.mp hn).1
  | x :: r, i + 1, 0, a, hn, h1, h2 => by
    simp at h1 h2
    subst h2
    exact absurd (List.mem_of_getElem? h1) (List.nodup_cons.mp hn).1
  | x :: r, i + 1, j + 1, a, hn, h1, h2 => by
    simp at h1 h2
    rw [nodup_at (List.nodup_cons.mp hn).2 h1 h2]
theorem ext_set {a : Addr} {o : HO} (ha : a ∈ ι) : Ext ι H ι (upd H a o) := ⟨⟨[], by simp⟩, fun b o' h n => ⟨by rw [upd_ne (fun z => n (by rw [z]; exact ha))]; exact h, n⟩⟩
theorem rep_set {a : Addr} {k : Nat} {xs : List D} {vs : List V} (r : Rep K ι H S) (hk : ι[k]? = some a) (h : RelDs K ι H xs vs) : Rep K ι (upd H a (.lst vs)) (S.set k xs) := by
  have ha : a ∈ ι := List.mem_of_getElem? hk
  have hE : Ext ι H ι (upd H a (.lst vs)) := ext_set ha
  refine ⟨r.nd, by simp [r.len], fun j b ys e1 e2 => ?_⟩
  by_cases hj : j = k
  · subst hj
    rw [hk] at e1; cases e1
    have hl : j < S.length := by rw [← r.len]; exact (List.getElem?_eq_some_iff.mp hk).1
    rw [List.getElem?_set_self hl] at e2; cases e2
    exact ⟨vs, upd_same, RelDs.later r hE h⟩
  · rw [List.getElem?_set_ne (Ne.symm hj)] at e2
    obtain ⟨ws, h1, h2⟩ := r.get j b ys e1 e2
    have hb : b ≠ a := by
      rintro rfl
      exact hj (nodup_at r.nd e1 hk)
    exact ⟨ws, by rw [upd_ne hb]; exact h1, RelDs.later r hE h2⟩
end
abbrev XD := D → List Addr → Store → Hp → Prop
def cont (K : PySem.W.Frag) (E : XD) {α : Type} (c : M α) (ι : List Addr) (S : Store) (H : Hp) (Q : α → List Addr → Store → Hp → Prop) : Prop :=
  ∃ r S', c S = some (r, S') ∧ ∀ ι' H', Ext ι H ι' H' → Rep K ι' H' S' → match r with
    | .ok a => Q a ι' S' H'
    | .ex x => E x ι' S' H'
section
variable {K : PySem.W.Frag} {E : XD} {ι : List Addr} {S : Store} {H : Hp} {α β : Type}
theorem cont_bind {c : M α} {f : α → M β} {Q : β → List Addr → Store → Hp → Prop} (h : cont K E (c >>= f) ι S H Q) : cont K E c ι S H (fun a ι1 S1 H1 => cont K E (f a) ι1 S1 H1 Q) := by
  obtain ⟨r, S', e, k⟩ := h
  have e' : M.bnd c f S = some (r, S') := e
  unfold M.bnd at e'
  cases q : c S with
  | none => rw [q] at e'; cases e'
  | some p =>
    obtain ⟨r1, S1⟩ := p
    rw [q] at e'
    cases r1 with
    | ok a => exact ⟨.ok a, S1, q, fun ι1 H1 x1 rep1 => ⟨r, S', e', fun ι2 H2 x2 rep2 => k ι2 H2 (x1.trans x2) rep2⟩⟩
    | ex x =>
      cases e'
      exact ⟨.ex x, _, q, fun ι1 H1 x1 rep1 => k ι1 H1 x1 rep1⟩
theorem cont_mono {c : M α} {Q Q' : α → List Addr → Store → Hp → Prop} (h : cont K E c ι S H Q) (k : ∀ a ι' S' H', Ext ι H ι' H' → Rep K ι' H' S' → Q a ι' S' H' → Q' a ι' S' H') : cont K E c ι S H Q' := by
  obtain ⟨r, S', e, q⟩ := h
  refine ⟨r, S', e, fun ι1 H1 x1 rep1 => ?_⟩
  have := q ι1 H1 x1 rep1
  cases r with
  | ok a => exact k a ι1 S' H1 x1 rep1 this
  | ex x => exact this
theorem cont_pure {a : α} {Q : α → List Addr → Store → Hp → Prop} (h : cont K E (pure a) ι S H Q) {ι' : List Addr} {H' : Hp} (x : Ext ι H ι' H') (r : Rep K ι' H' S) : Q a ι' S H' := by
  obtain ⟨r', S', e, q⟩ := h
  cases e
  exact q ι' H' x r
theorem cont_fail {Q : α → List Addr → Store → Hp → Prop} (h : cont K E (M.fail) ι S H Q) : False := by
  obtain ⟨r', S', e, q⟩ := h
  cases e
end
abbrev Env0 := List (Option D)
inductive RelE (K : PySem.W.Frag) (ι : List Addr) (H : Hp) : Env0 → St → Prop where
  | nil : RelE K ι H [] []
  | cons {o : Option D} {u : Option V} {ρ : Env0} {σ : St} : (∀ d, o = some d → ∃ v, u = some v ∧ RelD K ι H d v) → RelE K ι H ρ σ → RelE K ι H (o :: ρ) (u :: σ)
section
variable {K : PySem.W.Frag} {ι ι' : List Addr} {S : Store} {H H' : Hp}
theorem RelE.later (r : Rep K ι H S) (e : Ext ι H ι' H') : ∀ {ρ : Env0} {σ : St}, RelE K ι H ρ σ → RelE K ι' H' ρ σ
  | _, _, .nil => .nil
  | _, _, .cons h t => .cons (fun d z => let ⟨v, e1, e2⟩ := h d z; ⟨v, e1, RelD.later r e e2⟩) (RelE.later r e t)
theorem RelE.get : ∀ {ρ : Env0} {σ : St} {i : Nat} {d : D}, RelE K ι H ρ σ → ρ[i]? = some (some d) → ∃ v, σ[i]? = some (some v) ∧ RelD K ι H d v
  | _, _, _, _, .nil, e => by simp at e
  | _, _, 0, _, .cons h _, e => by
    simp at e
    obtain ⟨v, e1, e2⟩ := h _ e
    exact ⟨v, by simp [e1], e2⟩
  | _, _, i + 1, _, .cons _ t, e => by
    obtain ⟨v, h1, h2⟩ := RelE.get (i := i) t (by simpa using e)
    exact ⟨v, by simpa using h1, h2⟩
theorem RelE.set {d : D} {v : V} (r : RelD K ι H d v) : ∀ {ρ : Env0} {σ : St} (i : Nat), RelE K ι H ρ σ → RelE K ι H (ρ.set i (some d)) (σ.set i (some v))
  | _, _, _, .nil => .nil
  | _, _, 0, .cons _ t => .cons (fun d' z => by cases z; exact ⟨v, rfl, r⟩) t
  | _, _, i + 1, .cons q t => .cons q (RelE.set r i t)
theorem RelE.length : ∀ {ρ : Env0} {σ : St}, RelE K ι H ρ σ → ρ.length = σ.length
  | _, _, .nil => rfl
  | _, _, .cons _ t => by rw [List.length_cons, List.length_cons, RelE.length t]
theorem RelE.start : ∀ {ds : List D} {vs : List V}, RelDs K ι H ds vs → ∀ n, RelE K ι H (ds.map some ++ List.replicate n none) (vs.map some ++ List.replicate n none)
  | _, _, .nil, n => by
    induction n with
    | zero => exact .nil
    | succ n ih => exact .cons (fun d z => by cases z) ih
  | _, _, .cons r t, n => .cons (fun d z => by cases z; exact ⟨_, rfl, r⟩) (RelE.start t n)
end
abbrev TM := Env0 → M D
def okD (K : PySem.W.Frag) (Q : VK) : D → List Addr → Store → Hp → Prop := fun d ι' _ H' => ∀ v, RelD K ι' H' d v → Q v H'
def tM (K : PySem.W.Frag) (E : XD) (m : TM) : TE := fun σ H Q => ∃ ι S ρ, Rep K ι H S ∧ RelE K ι H ρ σ ∧ cont K E (m ρ) ι S H (okD K Q)
def SE (X : Cx) (E : XD) (e : Expr) (m : TM) : Prop := PE X e (tM X.K E m)
def tMT (K : PySem.W.Frag) (E : XD) (m : Env0 → M Bool) : TT := fun σ H Q => ∃ ι S ρ, Rep K ι H S ∧ RelE K ι H ρ σ ∧ cont K E (m ρ) ι S H (fun b _ _ H' => Q b H')
def SB (X : Cx) (E : XD) (e : Expr) (m : Env0 → M Bool) : Prop := PT X e (tMT X.K E m)
def SBW (X : Cx) (E : XD) (e : Expr) (m : Env0 → M Bool) : Prop := PW X e (tMT X.K E m)
def tMA (K : PySem.W.Frag) (E : XD) (m : Env0 → M (List D)) : TA := fun σ H Q => ∃ ι S ρ, Rep K ι H S ∧ RelE K ι H ρ σ ∧ cont K E (m ρ) ι S H (fun ds ι' _ H' => ∀ vs, RelDs K ι' H' ds vs → Q vs H')
def SA (X : Cx) (E : XD) (es : List Expr) (m : Env0 → M (List D)) : Prop := PA X es (tMA X.K E m)
inductive Out where
  | nx (ρ : Env0) | ret (d : D) | bk (ρ : Env0) | ct (ρ : Env0)
abbrev TMS := Env0 → M Out
def okO (K : PySem.W.Frag) (T : Ends) : Out → List Addr → Store → Hp → Prop := fun o ι' _ H' => match o with
  | .nx ρ => ∀ σ, RelE K ι' H' ρ σ → T.nx σ H'
  | .ret d => ∀ v, RelD K ι' H' d v → T.rt v H'
  | .bk ρ => ∀ σ, RelE K ι' H' ρ σ → T.bk σ H'
  | .ct ρ => ∀ σ, RelE K ι' H' ρ σ → T.ct σ H'
def tMS (K : PySem.W.Frag) (E : XD) (m : TMS) : TS := fun T σ H => ∃ ι S ρ, Rep K ι H S ∧ RelE K ι H ρ σ ∧ cont K E (m ρ) ι S H (okO K T)
def SS (X : Cx) (E : XD) (st : Stmt) (m : TMS) : Prop := PS X st (tMS X.K E m)
def SSs (X : Cx) (E : XD) (st : List Stmt) (m : TMS) : Prop := PSs X st (tMS X.K E m)
abbrev TMG := D → Env0 → M Env0
def tMG (K : PySem.W.Frag) (E : XD) (m : TMG) : TG := fun v σ H Q => ∃ ι S ρ d, Rep K ι H S ∧ RelE K ι H ρ σ ∧ RelD K ι H d v ∧ cont K E (m d ρ) ι S H (fun ρ' ι' _ H' => ∀ σ', RelE K ι' H' ρ' σ' → Q σ' H')
def SG (X : Cx) (E : XD) (tg : Expr) (m : TMG) : Prop := PG X tg (tMG X.K E m)
theorem PE.imp {X : Cx} {e : Expr} {t t' : TE} (h : PE X e t) (k : ∀ σ H Q, t' σ H Q → t σ H Q) : PE X e t' := fun pins s σ H Q I hw => h pins s σ H Q I (k σ H Q hw)
theorem PT.imp {X : Cx} {e : Expr} {t t' : TT} (h : PT X e t) (k : ∀ σ H Q, t' σ H Q → t σ H Q) : PT X e t' := fun pins s σ H Q I hw => h pins s σ H Q I (k σ H Q hw)
theorem PW.imp {X : Cx} {e : Expr} {t t' : TT} (h : PW X e t) (k : ∀ σ H Q, t' σ H Q → t σ H Q) : PW X e t' := fun wh pins s σ H Q I hw => h wh pins s σ H Q I (k σ H Q hw)
theorem PA.imp {X : Cx} {e : List Expr} {t t' : TA} (h : PA X e t) (k : ∀ σ H Q, t' σ H Q → t σ H Q) : PA X e t' := fun pos pins s σ H Q I hw => h pos pins s σ H Q I (k σ H Q hw)
theorem PS.imp {X : Cx} {e : Stmt} {t t' : TS} (h : PS X e t) (k : ∀ D σ H, t' D σ H → t D σ H) : PS X e t' := fun pins s σ H D I hw => h pins s σ H D I (k D σ H hw)
theorem PSs.imp {X : Cx} {e : List Stmt} {t t' : TS} (h : PSs X e t) (k : ∀ D σ H, t' D σ H → t D σ H) : PSs X e t' := fun pins s σ H D I hw => h pins s σ H D I (k D σ H hw)
theorem PG.imp {X : Cx} {e : Expr} {t t' : TG} (h : PG X e t) (k : ∀ v σ H Q, t' v σ H Q → t v σ H Q) : PG X e t' := fun pins s σ H v u Q I r hw => h pins s σ H v u Q I r (k v σ H Q hw)
section
variable {X : Cx} {E : XD} {a b e : Expr} {m n : TM} {pos : Pos}
def rdV (ρ : Env0) (i : Nat) : M D := match ρ[i]? with
  | some (some d) => pure d
  | _ => M.fail
theorem se_var (i : Nat) {x : Str} (hN : X.N[i]? = some x := by rfl) (hv : Vis X.env.scope x := by first | exact Or.inl rfl | exact Or.inr (Or.inl rfl) | exact Or.inr (Or.inr rfl)) (hd : (x == ("__debug__" : Str)) = false := by decide)
    (hcd : (x == ("__classdict__" : Str)) = false := by decide) : SE X E (.Name x pos) (fun ρ => rdV ρ i) := by
  refine PE.imp (pe_var hN hv hd hcd) fun σ H Q h => ?_
  obtain ⟨ι, S, ρ, rep, re, c⟩ := h
  unfold rdV at c
  dsimp only at c
  split at c
  · next d hd =>
    obtain ⟨v, e1, e2⟩ := re.get hd
    exact ⟨v, e1, cont_pure c .refl rep v e2⟩
  · exact (cont_fail c).elim
theorem se_const {v : V} {d : D} (h : PE X e (tC v)) (hd : ∀ ι H, RelD X.K ι H d v) : SE X E e (fun _ => pure d) := by
  refine PE.imp h fun σ H Q h => ?_
  obtain ⟨ι, S, ρ, rep, re, c⟩ := h
  exact cont_pure c .refl rep v (hd _ _)
theorem se_int {i : Int} {j} : SE X E (.Constant (.int i) j pos) (fun _ => pure (.int i)) := se_const pe_int fun _ _ => .int i
theorem se_bl {i : Bool} {j} : SE X E (.Constant (.bool i) j pos) (fun _ => pure (.bl i)) := se_const pe_bl fun _ _ => .bl i
theorem se_non {j} : SE X E (.Constant .none j pos) (fun _ => pure .non) := se_const pe_non fun _ _ => .non
theorem se_str {x : Str} {j} : SE X E (.Constant (.str x) j pos) (fun _ => pure (.str x)) := se_const pe_str fun _ _ => .str x
theorem se_gint {x : Str} {i : Int} {t : Tok} (hg : Gl X x) (hm : X.mg x = some (.int i t)) (hd : (x == ("__debug__" : Str)) = false := by decide) : SE X E (.Name x pos) (fun _ => pure (.int i)) :=
  se_const (pe_glob hg hm (v := .int i) ⟨t, rfl⟩ hd) fun _ _ => .int i
def OpD (K : PySem.W.Frag) (E : XD) (f : D → D → M D) (r : R2) : Prop :=
  ∀ ι S H d1 d2 v1 v2 Q, Rep K ι H S → RelD K ι H d1 v1 → RelD K ι H d2 v2 → cont K E (f d1 d2) ι S H (okD K Q) → r v1 v2 H Q
theorem seq2 {f : D → D → M D} {r : R2} (ho : OpD X.K E f r) {σ : St} {H : Hp} {Q : VK} (h : tM X.K E (fun ρ => do let x ← m ρ; let y ← n ρ; f x y) σ H Q) : tOp r (tM X.K E m) (tM X.K E n) σ H Q := by
  obtain ⟨ι, S, ρ, rep, re, c⟩ := h
  refine ⟨ι, S, ρ, rep, re, cont_mono (cont_bind c) fun x ι1 S1 H1 e1 rep1 c1 v1 r1 => ?_⟩
  refine ⟨ι1, S1, ρ, rep1, re.later rep e1, cont_mono (cont_bind c1) fun y ι2 S2 H2 e2 rep2 c2 v2 r2 => ?_⟩
  exact ho ι2 S2 H2 x y v1 v2 Q rep2 (r1.later rep1 e2) r2 c2
theorem se_op {op : Operator} {f : D → D → M D} {r : R2} (h : OpR X (binaryOp op) r) (ho : OpD X.K E f r) (ha : SE X E a m) (hb : SE X E b n) : SE X E (.BinOp a op b pos) (fun ρ => do let x ← m ρ; let y ← n ρ; f x y) :=
  PE.imp (pe_op h ha hb) fun _ _ _ q => seq2 ho q
theorem se_cmp {op : CmpOp} {f : D → D → M D} {r : R2} (h : OpR X (compareOp op) r) (ho : OpD X.K E f r) (ha : SE X E a m) (hb : SE X E b n) (hm : behindInMarks op b = false := by first | exact nobehind _ (by decide) (by decide) | rfl) :
    SE X E (.Compare a [op] [b] pos) (fun ρ => do let x ← m ρ; let y ← n ρ; f x y) :=
  PE.imp (pe_cmpR h ha hb hm) fun _ _ _ q => seq2 ho q
theorem se_ix {f : D → D → M D} {r : R2} (h : IxR X r) (ho : OpD X.K E f r) (ha : SE X E a m) (hb : SE X E b n) (hs : PlainIx b := by intro _ _; rfl) : SE X E (.Subscript a b pos) (fun ρ => do let x ← m ρ; let y ← n ρ; f x y) :=
  PE.imp (pe_ix h ha hb hs) fun _ _ _ q => seq2 ho q
end
end S3
end
section
set_option maxRecDepth 100000
set_option maxHeartbeats 4000000
namespace S3
open PySem PySem.Spec PyProof.Rows L2
def lim : Nat := 10000000
theorem lim_le : lim ≤ sizeLine := by rw [sizeLine_eq]; decide
theorem lim_lt : lim < sizeLine := by rw [sizeLine_eq]; decide
section
variable {K : PySem.W.Frag} {ι : List Addr} {H : Hp}
theorem RelD.bl_inv {b : Bool} {v : V} (h : RelD K ι H (.bl b) v) : v = .bl b := by cases h; rfl
theorem RelD.int_inv {b : Int} {v : V} (h : RelD K ι H (.int b) v) : v = .int b := by cases h; rfl
theorem RelD.str_inv {b : Str} {v : V} (h : RelD K ι H (.str b) v) : v = .str b := by cases h; rfl
theorem RelD.non_inv {v : V} (h : RelD K ι H .non v) : v = .non := by cases h; rfl
theorem RelD.tup_inv {ds : List D} {v : V} (h : RelD K ι H (.tup ds) v) : ∃ a vs, v = .ref a ∧ H a = some (.tup vs) ∧ RelDs K ι H ds vs := by
  cases h with
  | tup h1 h2 => exact ⟨_, _, rfl, h1, h2⟩
theorem RelD.lst_inv {k : Nat} {v : V} (h : RelD K ι H (.lst k) v) : ∃ a, v = .ref a ∧ ι[k]? = some a := by
  cases h with
  | lst h1 => exact ⟨_, rfl, h1⟩
theorem RelD.ro_inv {ds : List D} {v : V} (h : RelD K ι H (.ro ds) v) : ∃ a vs, v = .ref a ∧ Ron K H a vs ∧ RelDs K ι H ds vs := by
  cases h with
  | ro h1 h2 => exact ⟨_, _, rfl, h1, h2⟩
theorem RelDs.nil_inv {vs : List V} (h : RelDs K ι H [] vs) : vs = [] := by cases h; rfl
theorem RelDs.cons_inv {d : D} {ds : List D} {vs : List V} (h : RelDs K ι H (d :: ds) vs) : ∃ v ws, vs = v :: ws ∧ RelD K ι H d v ∧ RelDs K ι H ds ws := by
  cases h with
  | cons h1 h2 => exact ⟨_, _, rfl, h1, h2⟩
end
def asB : D → M Bool
  | .bl b => pure b
  | _ => M.fail
def getL (k : Nat) : M (List D) := fun S => (S[k]?).bind fun xs => some (.ok xs, S)
def newL (ds : List D) : M D := fun S => if ds.length ≤ lim then some (.ok (.lst S.length), S ++ [ds]) else none
def setL (k : Nat) (ds : List D) : M D := fun S => if ds.length ≤ lim ∧ k < S.length then some (.ok .non, S.set k ds) else none
def mkTup (ds : List D) : M D := if ds.length ≤ lim then pure (.tup ds) else M.fail
section
variable {K : PySem.W.Frag} {E : XD} {ι : List Addr} {S : Store} {H : Hp} {α : Type}
theorem asB_inv {x : D} {v : V} {f : Bool → M α} {Q : α → List Addr → Store → Hp → Prop} (rep : Rep K ι H S) (r : RelD K ι H x v) (c : cont K E (asB x >>= f) ι S H Q) : ∃ b, v = .bl b ∧ x = .bl b ∧ cont K E (f b) ι S H Q := by
  cases x with
  | bl b => exact ⟨b, r.bl_inv, rfl, cont_pure (cont_bind c) .refl rep⟩
  | _ => exact (cont_fail (cont_bind c)).elim
theorem asB_inv' {x : D} {v : V} {Q : Bool → List Addr → Store → Hp → Prop} (rep : Rep K ι H S) (r : RelD K ι H x v) (c : cont K E (asB x) ι S H Q) : ∃ b, v = .bl b ∧ x = .bl b ∧ Q b ι S H := by
  cases x with
  | bl b => exact ⟨b, r.bl_inv, rfl, cont_pure c .refl rep⟩
  | _ => exact (cont_fail c).elim
theorem cont_newL {ds : List D} {vs : List V} {Q : D → List Addr → Store → Hp → Prop} (c : cont K E (newL ds) ι S H Q) (rep : Rep K ι H S) (r : RelDs K ι H ds vs) :
    vs.length ≤ lim ∧ ∀ p, H p = none → Q (.lst S.length) (ι ++ [p]) (S ++ [ds]) (upd H p (.lst vs)) := by
  obtain ⟨r', S', e, q⟩ := c
  unfold newL at e
  split at e
  · next hl =>
    cases e
    exact ⟨by rw [← r.length]; exact hl, fun p hp => q _ _ (ext_list hp) (rep_list rep hp r)⟩
  · cases e
theorem lst_last (rep : Rep K ι H S) {p : Addr} {H' : Hp} : RelD K (ι ++ [p]) H' (.lst S.length) (.ref p) := .lst (by rw [← rep.len]; simp)
theorem cont_newL' {ds : List D} {vs : List V} {Q : VK} (c : cont K E (newL ds) ι S H (okD K Q)) (rep : Rep K ι H S) (r : RelDs K ι H ds vs) : vs.length ≤ lim ∧ ∀ p, H p = none → Q (.ref p) (upd H p (.lst vs)) :=
  let ⟨h1, h2⟩ := cont_newL c rep r
  ⟨h1, fun p hp => h2 p hp _ (lst_last rep)⟩
theorem cont_mkTup {ds : List D} {vs : List V} {Q : VK} (c : cont K E (mkTup ds) ι S H (okD K Q)) (rep : Rep K ι H S) (r : RelDs K ι H ds vs) : vs.length ≤ lim ∧ ∀ p, H p = none → Q (.ref p) (upd H p (.tup vs)) := by
  unfold mkTup at c
  split at c
  · next hl =>
    refine ⟨by rw [← r.length]; exact hl, fun p hp => ?_⟩
    exact cont_pure c (ext_new hp) (rep_new rep hp) _ (.tup upd_same (r.later rep (ext_new hp)))
  · exact (cont_fail c).elim
theorem cont_tupAt {ds : List D} {vs : List V} {a : Addr} {Q : VK} (c : cont K E (mkTup ds) ι S H (okD K Q)) (rep : Rep K ι H S) (h : H a = some (.tup vs)) (r : RelDs K ι H ds vs) : Q (.ref a) H := by
  unfold mkTup at c
  split at c
  · exact cont_pure c .refl rep _ (.tup h r)
  · exact (cont_fail c).elim
theorem cont_getL {k : Nat} {a : Addr} {f : List D → M α} {Q : α → List Addr → Store → Hp → Prop} (c : cont K E (getL k >>= f) ι S H Q) (rep : Rep K ι H S) (hk : ι[k]? = some a) :
    ∃ ds vs, S[k]? = some ds ∧ H a = some (.lst vs) ∧ RelDs K ι H ds vs ∧ cont K E (f ds) ι S H Q := by
  obtain ⟨r', S', e, q⟩ := cont_bind c
  unfold getL at e
  cases z : S[k]? with
  | none => rw [z] at e; cases e
  | some ds =>
    rw [z] at e
    cases e
    obtain ⟨vs, h1, h2⟩ := rep.get k a ds hk z
    exact ⟨ds, vs, rfl, h1, h2, q ι H .refl rep⟩
theorem cont_setL {k : Nat} {a : Addr} {ds : List D} {vs : List V} {Q : D → List Addr → Store → Hp → Prop} (c : cont K E (setL k ds) ι S H Q) (rep : Rep K ι H S) (hk : ι[k]? = some a) (r : RelDs K ι H ds vs) :
    vs.length ≤ lim ∧ Q .non ι (S.set k ds) (upd H a (.lst vs)) := by
  obtain ⟨r', S', e, q⟩ := c
  unfold setL at e
  split at e
  · next hl =>
    cases e
    exact ⟨by rw [← r.length]; exact hl.1, q _ _ (ext_set (List.mem_of_getElem? hk)) (rep_set rep hk r)⟩
  · cases e
end
section
variable {X : Cx} {E : XD} {a b e : Expr} {m n : TM} {pos : Pos} {rest es : List Expr} {ms : Env0 → M (List D)} {t u : Env0 → M Bool}
theorem se_one {op} (h : SE X E a m) : SE X E (.BoolOp op [a] pos) m := pe_one h
theorem se_and (ha : SE X E a m) (hb : SE X E (.BoolOp .And (b :: rest) pos) n) : SE X E (.BoolOp .And (a :: b :: rest) pos) (fun ρ => do let x ← m ρ; let c ← asB x; if c = true then n ρ else pure (.bl false)) := by
  refine PE.imp (pe_and ha hb) fun σ H Q h => ?_
  obtain ⟨ι, S, ρ, rep, re, c⟩ := h
  refine ⟨ι, S, ρ, rep, re, cont_mono (cont_bind c) fun x ι1 S1 H1 e1 rep1 c1 v1 r1 => ?_⟩
  obtain ⟨k, rfl, rfl, c2⟩ := asB_inv rep1 r1 c1
  refine ⟨k, rfl, ?_⟩
  cases k with
  | true => exact ⟨ι1, S1, ρ, rep1, re.later rep e1, c2⟩
  | false => exact cont_pure c2 .refl rep1 _ (.bl false)
theorem se_not (ha : SE X E a m) : SE X E (.UnaryOp .Not a pos) (fun ρ => do let x ← m ρ; let c ← asB x; pure (.bl (!c))) := by
  refine PE.imp (pe_not ha) fun σ H Q h => ?_
  obtain ⟨ι, S, ρ, rep, re, c⟩ := h
  refine ⟨ι, S, ρ, rep, re, cont_mono (cont_bind c) fun x ι1 S1 H1 e1 rep1 c1 v1 r1 => ?_⟩
  obtain ⟨k, rfl, rfl, c2⟩ := asB_inv rep1 r1 c1
  exact ⟨k, rfl, cont_pure c2 .refl rep1 _ (.bl _)⟩
theorem tB_of {σ : St} {H : Hp} {Q : Bool → Hp → Prop} (h : tMT X.K E (fun ρ => do let x ← m ρ; asB x) σ H Q) : tB (tM X.K E m) σ H Q := by
  obtain ⟨ι, S, ρ, rep, re, c⟩ := h
  refine ⟨ι, S, ρ, rep, re, cont_mono (cont_bind c) fun x ι1 S1 H1 e1 rep1 c1 v1 r1 => ?_⟩
  obtain ⟨k, rfl, rfl, c2⟩ := asB_inv' rep1 r1 c1
  exact ⟨k, rfl, c2⟩
theorem sb_val (h : SE X E e m) (he : ∀ whole, isTrue e X.env whole = (do let v ← whole; standAt e.pos; holding [v] (truthy v)) := by intro _; rfl) : SB X E e (fun ρ => do let x ← m ρ; asB x) :=
  PT.imp (pt_val h he) fun _ _ _ q => tB_of q
theorem sb_cmp {op : CmpOp} {f : D → D → M D} {r : R2} (h : OpR X (compareOp op) r) (ho : OpD X.K E f r) (ha : SE X E a m) (hb : SE X E b n) (hm : behindInMarks op b = false := by first | exact nobehind _ (by decide) (by decide) | rfl) :
    SB X E (.Compare a [op] [b] pos) (fun ρ => do let z ← (do let x ← m ρ; let y ← n ρ; f x y); asB z) :=
  PT.imp (pt_cmpR h ha hb hm) fun σ H Q q => by
    obtain ⟨ι, S, ρ, rep, re, c⟩ := q
    refine seq2 ho (Q := fun x H' => ∃ k, x = .bl k ∧ Q k H') ⟨ι, S, ρ, rep, re, cont_mono (cont_bind c) fun x ι1 S1 H1 e1 rep1 c1 v1 r1 => ?_⟩
    obtain ⟨k, rfl, rfl, c2⟩ := asB_inv' rep1 r1 c1
    exact ⟨k, rfl, c2⟩
theorem sb_not (h : SB X E a t) : SB X E (.UnaryOp .Not a pos) (fun ρ => do let c ← t ρ; pure (!c)) := by
  refine PT.imp (pt_not h) fun σ H Q q => ?_
  obtain ⟨ι, S, ρ, rep, re, c⟩ := q
  exact ⟨ι, S, ρ, rep, re, cont_mono (cont_bind c) fun k ι1 S1 H1 e1 rep1 c1 => cont_pure c1 .refl rep1⟩
theorem sw_and1 (h : SB X E a t) : SBW X E (.BoolOp .And [a] pos) t := pw_and1 h
theorem sw_or1 (h : SB X E a t) : SBW X E (.BoolOp .Or [a] pos) t := pw_or1 h
theorem sw_and (ha : SB X E a t) (hb : SBW X E (.BoolOp .And (b :: rest) pos) u) : SBW X E (.BoolOp .And (a :: b :: rest) pos) (fun ρ => do let c ← t ρ; if c = true then u ρ else pure false) := by
  refine PW.imp (pw_and ha hb) fun σ H Q q => ?_
  obtain ⟨ι, S, ρ, rep, re, c⟩ := q
  refine ⟨ι, S, ρ, rep, re, cont_mono (cont_bind c) fun k ι1 S1 H1 e1 rep1 c1 => ?_⟩
  cases k with
  | true => exact ⟨ι1, S1, ρ, rep1, re.later rep e1, c1⟩
  | false => exact cont_pure c1 .refl rep1
theorem sw_or (ha : SB X E a t) (hb : SBW X E (.BoolOp .Or (b :: rest) pos) u) : SBW X E (.BoolOp .Or (a :: b :: rest) pos) (fun ρ => do let c ← t ρ; if c = true then pure true else u ρ) := by
  refine PW.imp (pw_or ha hb) fun σ H Q q => ?_
  obtain ⟨ι, S, ρ, rep, re, c⟩ := q
  refine ⟨ι, S, ρ, rep, re, cont_mono (cont_bind c) fun k ι1 S1 H1 e1 rep1 c1 => ?_⟩
  cases k with
  | false => exact ⟨ι1, S1, ρ, rep1, re.later rep e1, c1⟩
  | true => exact cont_pure c1 .refl rep1
theorem sb_w (h : SBW X E e t) : SB X E e t := PW.pt h
theorem sa_nil : SA X E [] (fun _ => pure []) := by
  refine PA.imp pa_nil fun σ H Q q => ?_
  obtain ⟨ι, S, ρ, rep, re, c⟩ := q
  exact cont_pure c .refl rep _ .nil
theorem sa_cons (ha : SE X E e m) (hr : SA X E es ms) (hs : starEach (e :: es) X.env = (false, eval e X.env) :: starEach es X.env := by rfl) : SA X E (e :: es) (fun ρ => do let x ← m ρ; let xs ← ms ρ; pure (x :: xs)) := by
  refine PA.imp (pa_cons ha hr hs) fun σ H Q q => ?_
  obtain ⟨ι, S, ρ, rep, re, c⟩ := q
  refine ⟨ι, S, ρ, rep, re, cont_mono (cont_bind c) fun x ι1 S1 H1 e1 rep1 c1 v1 r1 => ?_⟩
  refine ⟨ι1, S1, ρ, rep1, re.later rep e1, cont_mono (cont_bind c1) fun xs ι2 S2 H2 e2 rep2 c2 vs r2 => ?_⟩
  exact cont_pure c2 .refl rep2 _ (.cons (r1.later rep1 e2) r2)
theorem se_tup {x1} (h : SA X E es ms) : SE X E (.Tuple es x1 pos) (fun ρ => do let ds ← ms ρ; mkTup ds) := by
  refine PE.imp (pe_tup h) fun σ H Q q => ?_
  obtain ⟨ι, S, ρ, rep, re, c⟩ := q
  refine ⟨ι, S, ρ, rep, re, cont_mono (cont_bind c) fun x ι1 S1 H1 e1 rep1 c1 vs r1 => ?_⟩
  obtain ⟨h1, h2⟩ := cont_mkTup c1 rep1 r1
  exact ⟨Nat.le_trans h1 lim_le, h2⟩
theorem se_lst (h : SA X E es ms) : SE X E (.List es pos) (fun ρ => do let ds ← ms ρ; newL ds) := by
  refine PE.imp (pe_lst h) fun σ H Q q => ?_
  obtain ⟨ι, S, ρ, rep, re, c⟩ := q
  refine ⟨ι, S, ρ, rep, re, cont_mono (cont_bind c) fun x ι1 S1 H1 e1 rep1 c1 vs r1 => ?_⟩
  obtain ⟨h1, h2⟩ := cont_newL' c1 rep1 r1
  exact ⟨Nat.le_trans h1 lim_le, h2⟩
def CallD (K : PySem.W.Frag) (E : XD) (f : List D → M D) (r : List V → Hp → VK → Prop) : Prop :=
  ∀ ι S H ds vs Q, Rep K ι H S → RelDs K ι H ds vs → cont K E (f ds) ι S H (okD K Q) → r vs H Q
theorem seqA {f : List D → M D} {r : List V → Hp → VK → Prop} (ho : CallD X.K E f r) {σ : St} {H : Hp} {Q : VK} (h : tM X.K E (fun ρ => do let ds ← ms ρ; f ds) σ H Q) : tCB r (tMA X.K E ms) σ H Q := by
  obtain ⟨ι, S, ρ, rep, re, c⟩ := h
  exact ⟨ι, S, ρ, rep, re, cont_mono (cont_bind c) fun ds ι1 S1 H1 e1 rep1 c1 vs r1 => ho ι1 S1 H1 ds vs Q rep1 r1 c1⟩
theorem se_callB {x : Str} {id : String} {f : List D → M D} {r : List V → Hp → VK → Prop} {p : Pos} (hc : CallR X (.builtin id) r) (ho : CallD X.K E f r) (hg : Gl X x) (hm : X.mg x = none) (hv : bootBuiltins x = some (.builtin id)) (ha : SA X E (e :: es) ms)
    (hn : x ≠ "__name__" := by decide) (hdb : (x == ("__debug__" : Str)) = false := by decide) (he : starEach (e :: es) X.env = (false, eval e X.env) :: starEach es X.env := by rfl) (hpl : (backTo pos (starEach es X.env)).any (·.1) = false := by rfl) :
    SE X E (.Call (.Name x p) (e :: es) [] pos) (fun ρ => do let ds ← ms ρ; f ds) :=
  PE.imp (pe_callB hc hg hm hv ha hn hdb he hpl) fun _ _ _ q => seqA ho q
theorem se_callTy {x : Str} {T : String} {f : List D → M D} {r : List V → Hp → VK → Prop} {p : Pos} (hc : CallR X (.type T) r) (ho : CallD X.K E f r) (hg : Gl X x) (hm : X.mg x = none) (hv : bootBuiltins x = some (.type T)) (ha : SA X E (e :: es) ms)
    (hn : x ≠ "__name__" := by decide) (hdb : (x == ("__debug__" : Str)) = false := by decide) (he : starEach (e :: es) X.env = (false, eval e X.env) :: starEach es X.env := by rfl) (hpl : (backTo pos (starEach es X.env)).any (·.1) = false := by rfl) :
    SE X E (.Call (.Name x p) (e :: es) [] pos) (fun ρ => do let ds ← ms ρ; f ds) :=
  PE.imp (pe_callTy hc hg hm hv ha hn hdb he hpl) fun _ _ _ q => seqA ho q
abbrev noX : XD := fun _ _ _ _ => False
def spM (K : PySem.W.Frag) (F : List D → M D) : Sp := fun vs H Q _ => ∃ ι S ds, Rep K ι H S ∧ RelDs K ι H ds vs ∧ cont K noX (F ds) ι S H (okD K Q)
theorem se_call {x : Str} {k : Nat} {f : Addr} {fd : FuncData} {ps : List Str} {F : List D → M D} {p : Pos} (G : FnOk X.prog X.w X.K X.mg X.base CX0 k f fd ps (spM X.K F)) (hr : Room k X.A) (hg : Gl X x) (hm : X.mg x = some (.ref f)) (hk : PySem.W.keepIn X.K (.ref f) = true)
    (hb : Binds X.K fd ps []) (ha : SA X noX (e :: es) ms) (hdb : (x == ("__debug__" : Str)) = false := by decide) (he : starEach (e :: es) X.env = (false, eval e X.env) :: starEach es X.env := by rfl) (hpl : (backTo pos (starEach es X.env)).any (·.1) = false := by rfl) :
    SE X noX (.Call (.Name x p) (e :: es) [] pos) (fun ρ => do let ds ← ms ρ; F ds) := by
  refine PE.imp (pe_call G hr hg hm hk hb (.nil) (E := E0) pass0 ha hdb he hpl) fun σ H Q h => ?_
  obtain ⟨ι, S, ρ, rep, re, c⟩ := h
  refine ⟨ι, S, ρ, rep, re, cont_mono (cont_bind c) fun ds ι1 S1 H1 e1 rep1 c1 vs r1 => ?_⟩
  show spM X.K F (vs ++ []) H1 Q E0
  rw [List.append_nil]
  exact ⟨ι1, S1, ds, rep1, r1, c1⟩
def MtD (K : PySem.W.Frag) (E : XD) (f : D → List D → M D) (r : V → List V → Hp → VK → Prop) : Prop :=
  ∀ ι S H d ds v vs Q, Rep K ι H S → RelD K ι H d v → RelDs K ι H ds vs → cont K E (f d ds) ι S H (okD K Q) → r v vs H Q
end
end S3
end
section
set_option maxRecDepth 100000
set_option maxHeartbeats 4000000
namespace S3
open PySem PySem.Spec PyProof.Rows L2
theorem cont_later {K : PySem.W.Frag} {E : XD} {α : Type} {c : M α} {ι ι' : List Addr} {S : Store} {H H' : Hp} {Q : α → List Addr → Store → Hp → Prop} (h : cont K E c ι S H Q) (e : Ext ι H ι' H') : cont K E c ι' S H' Q := by
  obtain ⟨r, S', q, k⟩ := h
  exact ⟨r, S', q, fun ι2 H2 x2 rep2 => k ι2 H2 (e.trans x2) rep2⟩
section
variable {X : Cx} {E : XD} {st : Stmt} {sts : List Stmt} {m n : TMS} {e : Expr} {me : TM} {t : Env0 → M Bool} {pos : Pos} {g : TMG}
def seqO (o : Out) (n : TMS) : M Out := match o with
  | .nx ρ => n ρ
  | .ret d => pure (.ret d)
  | .bk ρ => pure (.bk ρ)
  | .ct ρ => pure (.ct ρ)
theorem ss_nil : SSs X E [] (fun ρ => pure (.nx ρ)) := by
  refine PSs.imp pss_nil fun T σ H h => ?_
  obtain ⟨ι, S, ρ, rep, re, c⟩ := h
  exact cont_pure c .refl rep σ re
theorem ss_cons (h1 : SS X E st m) (h2 : SSs X E sts n) : SSs X E (st :: sts) (fun ρ => do let o ← m ρ; seqO o n) := by
  refine PSs.imp (pss_cons h1 h2) fun T σ H h => ?_
  obtain ⟨ι, S, ρ, rep, re, c⟩ := h
  refine ⟨ι, S, ρ, rep, re, cont_mono (cont_bind c) fun o ι1 S1 H1 e1 rep1 c1 => ?_⟩
  cases o with
  | nx ρ' => exact fun σ' re' => ⟨ι1, S1, ρ', rep1, re', c1⟩
  | ret d => exact cont_pure c1 .refl rep1
  | bk ρ' => exact cont_pure c1 .refl rep1
  | ct ρ' => exact cont_pure c1 .refl rep1
theorem ss_one (h1 : SS X E st m) : SSs X E [st] m := by
  refine PSs.imp (pss_one h1) fun T σ H h => h
theorem ss_expr (he : SE X E e me) (hs : swapsWith e none pos.line X.env = pure false := by rfl) : SS X E (.Expr e pos) (fun ρ => do let _ ← me ρ; pure (.nx ρ)) := by
  refine PS.imp (ps_expr he hs) fun T σ H h => ?_
  obtain ⟨ι, S, ρ, rep, re, c⟩ := h
  refine ⟨ι, S, ρ, rep, re, cont_mono (cont_bind c) fun d ι1 S1 H1 e1 rep1 c1 v r => ?_⟩
  exact cont_pure c1 .refl rep1 σ (re.later rep e1)
theorem ss_ret (he : SE X E e me) : SS X E (.Return (some e) pos) (fun ρ => do let d ← me ρ; pure (.ret d)) := by
  refine PS.imp (ps_ret he) fun T σ H h => ?_
  obtain ⟨ι, S, ρ, rep, re, c⟩ := h
  exact ⟨ι, S, ρ, rep, re, cont_mono (cont_bind c) fun d ι1 S1 H1 e1 rep1 c1 => cont_pure c1 .refl rep1⟩
theorem ss_if {a b : List Stmt} (hc : SB X E e t) (ha : SSs X E a m) (hb : SSs X E b n) : SS X E (.If e a b pos) (fun ρ => do let c ← t ρ; if c = true then m ρ else n ρ) := by
  refine PS.imp (ps_if hc ha hb) fun T σ H h => ?_
  obtain ⟨ι, S, ρ, rep, re, c⟩ := h
  refine ⟨ι, S, ρ, rep, re, cont_mono (cont_bind c) fun k ι1 S1 H1 e1 rep1 c1 => ?_⟩
  cases k with
  | true => exact ⟨ι1, S1, ρ, rep1, re.later rep e1, c1⟩
  | false => exact ⟨ι1, S1, ρ, rep1, re.later rep e1, c1⟩
theorem sg_name (i : Nat) {x : Str} (hN : X.N.Nodup) (hi : X.N[i]? = some x := by rfl) (hx : Loc X.env.scope x := by first | exact Or.inl rfl | exact Or.inr rfl) (hf : X.fn x = true ∨ X.env.scope.names.lookup x = some .local := by first | exact .inl rfl | exact .inr rfl | assumption) :
    SG X E (.Name x pos) (fun d ρ => pure (ρ.set i (some d))) := by
  refine PG.imp (pg_name hN hi hx hf) fun v σ H Q h => ?_
  obtain ⟨ι, S, ρ, d, rep, re, r, c⟩ := h
  exact cont_pure c .refl rep _ (re.set r i)
def tMGs (K : PySem.W.Frag) (E : XD) (m : List D → Env0 → M Env0) : TGs := fun vs σ H Q => ∃ ι S ρ ds, Rep K ι H S ∧ RelE K ι H ρ σ ∧ RelDs K ι H ds vs ∧ cont K E (m ds ρ) ι S H (fun ρ' ι' _ H' => ∀ σ', RelE K ι' H' ρ' σ' → Q σ' H')
def SGs (X : Cx) (E : XD) (ts : List Expr) (m : List D → Env0 → M Env0) : Prop := PGs X ts (tMGs X.K E m)
theorem PGs.imp {X : Cx} {e : List Expr} {t t' : TGs} (h : PGs X e t) (k : ∀ v σ H Q, t' v σ H Q → t v σ H Q) : PGs X e t' := fun pins s σ H v u Q I r hw => h pins s σ H v u Q I r (k v σ H Q hw)
def gsNil : List D → Env0 → M Env0 := fun ds ρ => match ds with
  | [] => pure ρ
  | _ => M.fail
def gsCons (g : TMG) (gs : List D → Env0 → M Env0) : List D → Env0 → M Env0 := fun ds ρ => match ds with
  | d :: r => do let ρ1 ← g d ρ; gs r ρ1
  | _ => M.fail
theorem sgs_nil : SGs X E [] gsNil := by
  refine PGs.imp pgs_nil fun vs σ H Q h => ?_
  obtain ⟨ι, S, ρ, ds, rep, re, r, c⟩ := h
  cases ds with
  | nil => exact ⟨r.nil_inv, cont_pure c .refl rep σ re⟩
  | cons d ds => exact (cont_fail c).elim
theorem sgs_cons {es : List Expr} {gs : List D → Env0 → M Env0} (h1 : SG X E e g) (h2 : SGs X E es gs) (hs : (assignEach (e :: es) X.env).map (·.2) = assign e X.env :: (assignEach es X.env).map (·.2) := by rfl) : SGs X E (e :: es) (gsCons g gs) := by
  refine PGs.imp (pgs_cons h1 h2 hs) fun vs σ H Q h => ?_
  obtain ⟨ι, S, ρ, ds, rep, re, r, c⟩ := h
  cases ds with
  | nil => exact (cont_fail c).elim
  | cons d ds =>
    obtain ⟨v, ws, rfl, r1, r2⟩ := r.cons_inv
    refine ⟨v, ws, rfl, ι, S, ρ, d, rep, re, r1, cont_mono (cont_bind c) fun ρ1 ι1 S1 H1 e1 rep1 c1 σ1 re1 => ?_⟩
    exact ⟨ι1, S1, ρ1, ds, rep1, re1, r2.later rep e1, c1⟩
def gTupD (n : Nat) (gs : List D → Env0 → M Env0) : TMG := fun d ρ => match d with
  | .tup ds => if ds.length = n then gs ds ρ else M.fail
  | _ => M.fail
theorem sg_tup {es : List Expr} {k : Nat} {n : Nat} {gs : List D → Env0 → M Env0} (hc : X.calm = true) (h : SGs X E es gs) (hn : (assignEach es X.env).length = n := by rfl) (hst : (assignEach es X.env).findIdx? (·.1) = none := by rfl) :
    SG X E (.Tuple es k pos) (gTupD n gs) := by
  refine PG.imp (pg_tup hc h hn hst) fun v σ H Q q => ?_
  obtain ⟨ι, S, ρ, d, rep, re, r, c⟩ := q
  cases d with
  | tup ds =>
    obtain ⟨a, vs, rfl, h1, h2⟩ := r.tup_inv
    dsimp only [gTupD] at c
    split at c
    · next hl => exact ⟨a, vs, rfl, SqT.of h1, by rw [← h2.length]; exact hl, ι, S, ρ, ds, rep, re, h2, c⟩
    · exact (cont_fail c).elim
  | _ => exact (cont_fail c).elim
theorem ss_asg {tg : Expr} (he : SE X E e me) (hg : SG X E tg g) (hs : swapsWithSole [tg] e pos.line X.env = pure false := by rfl) (hw : swappedStores [tg] e X.env = pure none := by rfl)
    (h1 : (assignEach [tg] X.env).map (·.2) = [assign tg X.env] := by rfl) : SS X E (.Assign [tg] e pos) (fun ρ => do let d ← me ρ; let ρ' ← g d ρ; pure (.nx ρ')) := by
  refine PS.imp (ps_asg he hg hs hw h1) fun T σ H h => ?_
  obtain ⟨ι, S, ρ, rep, re, c⟩ := h
  refine ⟨ι, S, ρ, rep, re, cont_mono (cont_bind c) fun d ι1 S1 H1 e1 rep1 c1 v r => ?_⟩
  exact ⟨ι1, S1, ρ, d, rep1, re.later rep e1, r, cont_mono (cont_bind c1) fun ρ' ι2 S2 H2 e2 rep2 c2 => cont_pure c2 .refl rep2⟩
theorem ss_set (i : Nat) {x : Str} {pos' : Pos} (hN : X.N.Nodup) (he : SE X E e me) (hi : X.N[i]? = some x := by rfl) (hx : Loc X.env.scope x := by first | exact Or.inl rfl | exact Or.inr rfl) (hs : swapsWith e (some (.Name x pos')) pos.line X.env = pure false := by rfl)
    (hf : X.fn x = true ∨ X.env.scope.names.lookup x = some .local := by first | exact .inl rfl | exact .inr rfl | assumption) : SS X E (.Assign [.Name x pos'] e pos) (fun ρ => do let d ← me ρ; pure (.nx (ρ.set i (some d)))) := by
  refine PS.imp (ps_set hN hi hx he hs hf) fun T σ H h => ?_
  obtain ⟨ι, S, ρ, rep, re, c⟩ := h
  refine ⟨ι, S, ρ, rep, re, cont_mono (cont_bind c) fun d ι1 S1 H1 e1 rep1 c1 v r => ?_⟩
  exact cont_pure c1 .refl rep1 _ ((re.later rep e1).set r i)
theorem ss_par (i j : Nat) {x y : Str} {a b : Expr} {px py pt : Pos} {kt k2 pt2} {ms : Env0 → M (List D)} (hc : X.calm = true) (hN : X.N.Nodup) (ha : SA X E [a, b] ms) (hi : X.N[i]? = some x := by rfl) (hj : X.N[j]? = some y := by rfl) (hij : i ≠ j := by decide)
    (hx : X.env.scope.names.lookup x = some .local := by rfl) (hy : X.env.scope.names.lookup y = some .local := by rfl)
    (hw : swappedStores [.Tuple [.Name x px, .Name y py] kt pt] (.Tuple [a, b] k2 pt2) X.env = pure (some [x, y]) := by rfl)
    (hs : swapsWithSole [.Tuple [.Name x px, .Name y py] kt pt] (.Tuple [a, b] k2 pt2) pos.line X.env = pure false := by rfl) :
    SS X E (.Assign [.Tuple [.Name x px, .Name y py] kt pt] (.Tuple [a, b] k2 pt2) pos) (fun ρ => do let ds ← ms ρ; match ds with | [d1, d2] => pure (.nx ((ρ.set i (some d1)).set j (some d2))) | _ => M.fail) := by
  refine PS.imp (ps_par hc hN hi hj hij hx hy ha hw hs) fun T σ H h => ?_
  obtain ⟨ι, S, ρ, rep, re, c⟩ := h
  refine ⟨ι, S, ρ, rep, re, cont_mono (cont_bind c) fun ds ι1 S1 H1 e1 rep1 c1 vs r => ?_⟩
  match ds, r, c1 with
  | [d1, d2], r, c1 =>
    obtain ⟨v1, ws, rfl, r1, r2⟩ := r.cons_inv
    obtain ⟨v2, ws2, rfl, r3, r4⟩ := r2.cons_inv
    cases r4.nil_inv
    exact ⟨v1, v2, rfl, cont_pure c1 .refl rep1 _ (((re.later rep e1).set r1 i).set r3 j)⟩
  | [], r, c1 => exact (cont_fail c1).elim
  | [d], r, c1 => exact (cont_fail c1).elim
  | d1 :: d2 :: d3 :: r', r, c1 => exact (cont_fail c1).elim
def SetD (K : PySem.W.Frag) (E : XD) (f : D → D → D → M Unit) (r : TSet) : Prop :=
  ∀ ι S H d1 d2 d3 v1 v2 v3 Q, Rep K ι H S → RelD K ι H d1 v1 → RelD K ι H d2 v2 → RelD K ι H d3 v3 → cont K E (f d1 d2 d3) ι S H (fun _ _ _ H' => Q H') → r v1 v2 v3 H Q
def setItemD : D → D → D → M Unit := fun o i v => match o, i with
  | .lst k, .int j => do
    let xs ← getL k
    match ixN xs.length j with
    | some at' => do let _ ← setL k (xs.set at' v); pure ()
    | none => M.fail
  | _, _ => M.fail
structure Iter where
  items : List D
  chk : Option Nat
def Iter.okS (it : Iter) (S : Store) : Prop := match it.chk with
  | none => True
  | some k => S[k]? = some it.items
open Classical in
noncomputable def chkM (it : Iter) : M Unit := fun S => if it.okS S then some (.ok (), S) else none
def IterOk (K : PySem.W.Frag) (it : Iter) (J : It) (ι : List Addr) (H : Hp) : Prop :=
  ∀ ι2 H2 S2, Ext ι H ι2 H2 → Rep K ι2 H2 S2 → it.okS S2 → ∀ i, (∀ d, it.items[i]? = some d → J.go i H2 ∧ ∀ x H3, J.yld i H2 x H3 → Ext ι2 H2 ι2 H3 ∧ Rep K ι2 H3 S2 ∧ RelD K ι2 H3 d x) ∧ (it.items.length ≤ i → J.stop i H2)
def tMI (K : PySem.W.Frag) (E : XD) (mi : Env0 → M Iter) : TI := fun σ H R => ∃ ι S ρ, Rep K ι H S ∧ RelE K ι H ρ σ ∧ cont K E (mi ρ) ι S H (fun it ι' _ H' => ∀ J, IterOk K it J ι' H' → R J H')
def SI (X : Cx) (E : XD) (tg iter : Expr) (mi : Env0 → M Iter) : Prop := PI X tg iter (tMI X.K E mi)
noncomputable def forD (it : Iter) (g : TMG) (b : TMS) : List D → Env0 → M Out
  | [], ρ => do chkM it; pure (.nx ρ)
  | d :: ds, ρ => do
    chkM it
    let ρ1 ← g d ρ
    let o ← b ρ1
    match o with
    | .nx ρ' => forD it g b ds ρ'
    | .ct ρ' => forD it g b ds ρ'
    | .bk ρ' => pure (.nx ρ')
    | .ret r => pure (.ret r)
theorem cont_chk {K : PySem.W.Frag} {ι : List Addr} {S : Store} {H : Hp} {α : Type} {it : Iter} {f : Unit → M α} {Q : α → List Addr → Store → Hp → Prop} (h : cont K E (chkM it >>= f) ι S H Q) (rep : Rep K ι H S) : it.okS S ∧ cont K E (f ()) ι S H Q := by
  obtain ⟨r, S', e, k⟩ := cont_bind h
  unfold chkM at e
  split at e
  · next ho => cases e; exact ⟨ho, k ι H .refl rep⟩
  · cases e
theorem ss_for {iter tg : Expr} {body : List Stmt} {mi : Env0 → M Iter} {b : TMS} (hp : PassesOwn (model X.prog X.w) X.A X.env X.xe) (hc : X.calm = true) (hi : SI X E tg iter mi) (hg : SG X E tg g) (hb : SSs X E body b)
    (hs : ∀ x, foldedSetIterable iter X.env x = pure x := by intro _; rfl) : SS X E (.For tg iter body [] pos) (fun ρ => do let it ← mi ρ; forD it g b it.items ρ) := by
  refine PS.imp (ps_for hp hc hi hg hb hs) fun T σ H h => ?_
  obtain ⟨ι, S, ρ, rep, re, c⟩ := h
  refine ⟨ι, S, ρ, rep, re, cont_mono (cont_bind c) fun it ι1 S1 H1 e1 rep1 c1 J hJ => ?_⟩
  refine ⟨fun i n σ' H' => ∃ ι2 S2 ρ2, n = it.items.length - i ∧ i ≤ it.items.length ∧ Ext ι1 H1 ι2 H' ∧ Rep X.K ι2 H' S2 ∧ RelE X.K ι2 H' ρ2 σ' ∧ cont X.K E (forD it g b (it.items.drop i) ρ2) ι2 S2 H' (okO X.K T), ⟨_, ι1, S1, ρ, rfl, Nat.zero_le _, .refl, rep1, re.later rep e1, c1⟩, ?_⟩
  rintro i n σ' H' ⟨ι2, S2, ρ2, hn, hi', e2, rep2, re2, c2⟩
  by_cases hlt : i < it.items.length
  · have hd : it.items.drop i = it.items[i] :: it.items.drop (i + 1) := List.drop_eq_getElem_cons hlt
    rw [hd] at c2
    have c2' : cont X.K E (do chkM it; let ρ1 ← g it.items[i] ρ2; let o ← b ρ1; match o with | .nx ρ' => forD it g b (it.items.drop (i + 1)) ρ' | .ct ρ' => forD it g b (it.items.drop (i + 1)) ρ' | .bk ρ' => pure (.nx ρ') | .ret r => pure (.ret r)) ι2 S2 H' (okO X.K T) := c2
    obtain ⟨ok, c3⟩ := cont_chk c2' rep2
    obtain ⟨hgo, hst⟩ := hJ ι2 H' S2 e2 rep2 ok i
    obtain ⟨go, yl⟩ := hgo it.items[i] (List.getElem?_eq_getElem hlt)
    refine .inr ⟨go, fun σ'' H'' => ∃ ι3 S3 ρ3, Ext ι1 H1 ι3 H'' ∧ Rep X.K ι3 H'' S3 ∧ RelE X.K ι3 H'' ρ3 σ'' ∧ cont X.K E (forD it g b (it.items.drop (i + 1)) ρ3) ι3 S3 H'' (okO X.K T), ?_, fun x H3 hy => ?_⟩
    · rintro σ'' H'' ⟨ι3, S3, ρ3, e3, rep3, re3, c4⟩
      exact ⟨_, by omega, ι3, S3, ρ3, rfl, hlt, e3, rep3, re3, c4⟩
    · obtain ⟨e3, rep3, rd⟩ := yl x H3 hy
      refine ⟨ι2, S2, ρ2, it.items[i], rep3, re2.later rep2 e3, rd, cont_mono (cont_bind (cont_later c3 e3)) fun ρ4 ι4 S4 H4 e4 rep4 c4 σ4 re4 => ?_⟩
      refine ⟨ι4, S4, ρ4, rep4, re4, cont_mono (cont_bind c4) fun o ι5 S5 H5 e5 rep5 c5 => ?_⟩
      have e15 : Ext ι1 H1 ι5 H5 := e2.trans (e3.trans (e4.trans e5))
      cases o with
      | nx ρ' => exact fun σ5 re5 => ⟨ι5, S5, ρ', e15, rep5, re5, c5⟩
      | ct ρ' => exact fun σ5 re5 => ⟨ι5, S5, ρ', e15, rep5, re5, c5⟩
      | bk ρ' => exact cont_pure c5 .refl rep5
      | ret d => exact cont_pure c5 .refl rep5
  · have hd : it.items.drop i = [] := List.drop_eq_nil_of_le (by omega)
    rw [hd] at c2
    have c2' : cont X.K E (do chkM it; pure (.nx ρ2)) ι2 S2 H' (okO X.K T) := c2
    obtain ⟨ok, c3⟩ := cont_chk c2' rep2
    exact .inl ⟨(hJ ι2 H' S2 e2 rep2 ok i).2 (by omega), cont_pure c3 .refl rep2 σ' re2⟩
def whileD (t : Env0 → M Bool) (b : TMS) : Nat → Env0 → M Out
  | 0, _ => M.fail
  | k + 1, ρ => do
    let c ← t ρ
    if c = true then do
      let o ← b ρ
      match o with
      | .nx ρ' => whileD t b k ρ'
      | .ct ρ' => whileD t b k ρ'
      | .bk ρ' => pure (.nx ρ')
      | .ret r => pure (.ret r)
    else pure (.nx ρ)
theorem ss_while (k : Nat) {body : List Stmt} {b : TMS} (hp : PassesOwn (model X.prog X.w) X.A X.env X.xe) (hc : SB X E e t) (hb : SSs X E body b) : SS X E (.While e body [] pos) (fun ρ => whileD t b k ρ) := by
  refine PS.imp (ps_while hp hc hb) fun T σ H h => ?_
  obtain ⟨ι, S, ρ, rep, re, c⟩ := h
  refine ⟨fun n σ' H' => ∃ ι2 S2 ρ2, Rep X.K ι2 H' S2 ∧ RelE X.K ι2 H' ρ2 σ' ∧ cont X.K E (whileD t b n ρ2) ι2 S2 H' (okO X.K T), ⟨k, ι, S, ρ, rep, re, c⟩, ?_⟩
  rintro n σ' H' ⟨ι2, S2, ρ2, rep2, re2, c2⟩
  cases n with
  | zero => exact (cont_fail c2).elim
  | succ n =>
    refine ⟨ι2, S2, ρ2, rep2, re2, cont_mono (cont_bind c2) fun k ι3 S3 H3 e3 rep3 c3 => ?_⟩
    cases k with
    | false => exact cont_pure c3 .refl rep3 σ' (re2.later rep2 e3)
    | true =>
      refine ⟨fun σ'' H'' => ∃ ι2 S2 ρ2, Rep X.K ι2 H'' S2 ∧ RelE X.K ι2 H'' ρ2 σ'' ∧ cont X.K E (whileD t b n ρ2) ι2 S2 H'' (okO X.K T), fun σ'' H'' h => ⟨n, Nat.lt_succ_self _, h⟩, ?_⟩
      refine ⟨ι3, S3, ρ2, rep3, re2.later rep2 e3, cont_mono (cont_bind c3) fun o ι5 S5 H5 e5 rep5 c5 => ?_⟩
      cases o with
      | nx ρ' => exact fun σ5 re5 => ⟨ι5, S5, ρ', rep5, re5, c5⟩
      | ct ρ' => exact fun σ5 re5 => ⟨ι5, S5, ρ', rep5, re5, c5⟩
      | bk ρ' => exact cont_pure c5 .refl rep5
      | ret d => exact cont_pure c5 .refl rep5
end
end S3
end
section
set_option maxRecDepth 100000
set_option maxHeartbeats 4000000
namespace S3
open PySem PySem.Spec PyProof.Rows L2
def hid (H : Hp) (p : Addr) : Hp := fun a => if a = p then none else H a
theorem hide_ne {H : Hp} {p a : Addr} (h : a ≠ p) : hid H p a = H a := if_neg h
theorem hide_at {H : Hp} {p : Addr} : hid H p p = none := if_pos rfl
theorem hide_some {H : Hp} {p a : Addr} {o : HO} (h : hid H p a = some o) : a ≠ p ∧ H a = some o := by
  by_cases e : a = p
  · rw [e, hide_at] at h; cases h
  · rw [hide_ne e] at h; exact ⟨e, h⟩
theorem upd_hide {H : Hp} {p : Addr} {o : HO} (h : H p = some o) : upd (hid H p) p o = H := by
  funext a
  by_cases e : a = p
  · rw [e, upd_same, h]
  · rw [upd_ne e, hide_ne e]
theorem hide_upd {H : Hp} {p : Addr} {o : HO} : hid (upd H p o) p = hid H p := by
  funext a
  by_cases e : a = p
  · rw [e, hide_at, hide_at]
  · rw [hide_ne e, hide_ne e, upd_ne e]
theorem hide_fresh {H : Hp} {p : Addr} (h : H p = none) : hid H p = H := by
  funext a
  by_cases e : a = p
  · rw [e, hide_at, h]
  · rw [hide_ne e]
section
variable {K : PySem.W.Frag} {ι ι' : List Addr} {H H' : Hp} {S : Store} {p : Addr}
mutual
theorem RelD.hide {ws : List V} (hp : H p = some (.lst ws)) : ∀ {d : D} {v : V}, RelD K ι H d v → RelD K ι (hid H p) d v
  | _, _, .non => .non
  | _, _, .bl b => .bl b
  | _, _, .int i => .int i
  | _, _, .str x => .str x
  | _, _, .tup h hs => .tup (by rw [hide_ne (fun z => by rw [z, hp] at h; cases h)]; exact h) (RelDs.hide hp hs)
  | _, _, .lst h => .lst h
  | _, _, .ro h hs => .ro (h.imp (fun ⟨o, h⟩ => ⟨o, by rw [hide_ne (fun z => by rw [z, hp] at h; cases h)]; exact h⟩) fun z => z) (RelDs.hide hp hs)
  | _, _, .emp h => .emp (by rw [hide_ne (fun z => by rw [z, hp] at h; cases h)]; exact h)
theorem RelDs.hide {ws : List V} (hp : H p = some (.lst ws)) : ∀ {ds : List D} {vs : List V}, RelDs K ι H ds vs → RelDs K ι (hid H p) ds vs
  | _, _, .nil => .nil
  | _, _, .cons h hs => .cons (RelD.hide hp h) (RelDs.hide hp hs)
end
mutual
theorem RelD.unhide : ∀ {d : D} {v : V}, RelD K ι (hid H p) d v → RelD K ι H d v
  | _, _, .non => .non
  | _, _, .bl b => .bl b
  | _, _, .int i => .int i
  | _, _, .str x => .str x
  | _, _, .tup h hs => .tup (hide_some h).2 (RelDs.unhide hs)
  | _, _, .lst h => .lst h
  | _, _, .ro h hs => .ro (h.imp (fun ⟨o, h⟩ => ⟨o, (hide_some h).2⟩) fun z => z) (RelDs.unhide hs)
  | _, _, .emp h => .emp (hide_some h).2
theorem RelDs.unhide : ∀ {ds : List D} {vs : List V}, RelDs K ι (hid H p) ds vs → RelDs K ι H ds vs
  | _, _, .nil => .nil
  | _, _, .cons h hs => .cons (RelD.unhide h) (RelDs.unhide hs)
end
theorem RelE.hide {ws : List V} (hp : H p = some (.lst ws)) : ∀ {ρ : Env0} {σ : St}, RelE K ι H ρ σ → RelE K ι (hid H p) ρ σ
  | _, _, .nil => .nil
  | _, _, .cons h t => .cons (fun d z => let ⟨v, e1, e2⟩ := h d z; ⟨v, e1, e2.hide hp⟩) (RelE.hide hp t)
theorem RelE.unhide : ∀ {ρ : Env0} {σ : St}, RelE K ι (hid H p) ρ σ → RelE K ι H ρ σ
  | _, _, .nil => .nil
  | _, _, .cons h t => .cons (fun d z => let ⟨v, e1, e2⟩ := h d z; ⟨v, e1, e2.unhide⟩) (RelE.unhide t)
theorem Rep.hide {ws : List V} (hp : H p = some (.lst ws)) (hn : p ∉ ι) (r : Rep K ι H S) : Rep K ι (hid H p) S :=
  ⟨r.nd, r.len, fun k a xs e1 e2 => let ⟨vs, h1, h2⟩ := r.get k a xs e1 e2; ⟨vs, by rw [hide_ne (fun z => hn (by rw [← z]; exact List.mem_of_getElem? e1))]; exact h1, h2.hide hp⟩⟩
theorem Rep.unhide (r : Rep K ι (hid H p) S) : Rep K ι H S :=
  ⟨r.nd, r.len, fun k a xs e1 e2 => let ⟨vs, h1, h2⟩ := r.get k a xs e1 e2; ⟨vs, (hide_some h1).2, h2.unhide⟩⟩
theorem Ext.hide (e : Ext ι H ι' H') : Ext ι (hid H p) ι' (hid H' p) :=
  ⟨e.ids, fun a o h n => by
    obtain ⟨h1, h2⟩ := hide_some h
    obtain ⟨h3, h4⟩ := e.oth a o h2 n
    exact ⟨by rw [hide_ne h1]; exact h3, h4⟩⟩
theorem Ext.unhide (e : Ext ι H ι' (hid H' p)) : Ext ι H ι' H' :=
  ⟨e.ids, fun a o h n => by
    obtain ⟨h3, h4⟩ := e.oth a o h n
    exact ⟨(hide_some h3).2, h4⟩⟩
theorem cont_hide {E : XD} {α : Type} {c : M α} {ws : List V} {Q : α → List Addr → Store → Hp → Prop} (h : cont K noX c ι S (hid H p) Q) (hp : H p = some (.lst ws)) (hn : p ∉ ι) :
    cont K E c ι S H (fun a ι' S' H' => H' p = some (.lst ws) ∧ p ∉ ι' ∧ Q a ι' S' (hid H' p)) := by
  obtain ⟨r, S', e, k⟩ := h
  refine ⟨r, S', e, fun ι' H' x rep => ?_⟩
  obtain ⟨h1, h2⟩ := x.oth p _ hp hn
  have := k ι' (hid H' p) x.hide (rep.hide h1 h2)
  cases r with
  | ok a => exact ⟨h1, h2, this⟩
  | ex y => exact this.elim
end
def blkM (js : List (Option Nat)) (ρ : Env0) : Env0 := js.map fun o => o.bind fun j => (ρ[j]?).join
theorem RelE.blk {K : PySem.W.Frag} {ι : List Addr} {H : Hp} {ρ : Env0} {σ : St} (re : RelE K ι H ρ σ) : ∀ js : List (Option Nat), RelE K ι H (blkM js ρ) (blk0 js σ)
  | [] => .nil
  | none :: js => .cons (fun d z => by cases z) (RelE.blk re js)
  | some j :: js => .cons (fun d z => by
      have z' : (ρ[j]?).join = some d := z
      have : ρ[j]? = some (some d) := by
        cases q : ρ[j]? with
        | none => rw [q] at z'; cases z'
        | some o => rw [q] at z'; exact congrArg some z'
      obtain ⟨v, e1, e2⟩ := re.get this
      refine ⟨v, ?_, e2⟩
      show (σ[j]?).join = some v
      rw [e1]; rfl) (RelE.blk re js)
noncomputable def compD (it : Iter) (g : TMG) (t : Env0 → M Bool) (m : TM) : List D → Env0 → M (List D)
  | [], ρ => do chkM it; pure []
  | d :: ds, ρ => do
    chkM it
    let ρ1 ← g d ρ
    let b ← t ρ1
    if b = true then do
      let y ← m ρ1
      let ys ← compD it g t m ds ρ1
      pure (y :: ys)
    else compD it g t m ds ρ1
noncomputable def compAll (it : Iter) (g : TMG) (t : Env0 → M Bool) (m : TM) (ρ : Env0) : M (List D) := if it.items.length ≤ lim then compD it g t m it.items ρ else M.fail
def STs (X : Cx) (E : XD) (ifs : List Expr) (t : Env0 → M Bool) : Prop := PTs X ifs (tMT X.K E t)
theorem sts_nil {X : Cx} {E : XD} : STs X E [] (fun _ => pure true) := fun pins s σ H Q I h => pts_nil pins s σ H Q I (by
  obtain ⟨ι, S, ρ, rep, re, c⟩ := h
  exact cont_pure c .refl rep)
theorem sts_one {X : Cx} {E : XD} {c : Expr} {t : Env0 → M Bool} (h : SB X E c t) : STs X E [c] t := pts_one h
section
variable {X : Cx} {scope : Scope} {Nc : List Str} {js : List (Option Nat)} {elt tg iter : Expr} {ifs : List Expr} {pos : Pos} {mi : Env0 → M Iter} {g : TMG} {t : Env0 → M Bool} {m : TM}
theorem bnd_assoc {α β γ : Type} (c : M α) (f : α → M β) (h : β → M γ) : ((c >>= f) >>= h) = (c >>= fun a => f a >>= h) := by
  funext S
  show M.bnd (M.bnd c f) h S = M.bnd c (fun a => M.bnd (f a) h) S
  unfold M.bnd
  cases c S with
  | none => rfl
  | some r =>
    obtain ⟨r, S'⟩ := r
    cases r <;> rfl
theorem pure_bnd {α β : Type} (a : α) (f : α → M β) : (pure a >>= f) = f a := rfl
theorem bnd_ite {α β : Type} {c : Prop} [Decidable c] (x y : M α) (f : α → M β) : ((if c then x else y) >>= f) = if c then x >>= f else y >>= f := by split <;> rfl
theorem tComp_of {σ : St} {H : Hp} {Q : VK} (h : tM X.K noX (fun ρ => do let it ← mi ρ; let ys ← compAll it g t m (blkM js ρ); newL ys) σ H Q) :
    tComp (tMI X.K noX mi) js (tMG X.K noX g) (tMT X.K noX t) (tM X.K noX m) σ H Q := by
  obtain ⟨ι, S, ρ, rep, re, c⟩ := h
  refine ⟨ι, S, ρ, rep, re, cont_mono (cont_bind c) fun it ι1 S1 H1 e1 rep1 c1 J hJ p hp => ?_⟩
  have hcl : it.items.length ≤ lim ∧ cont X.K noX (compD it g t m it.items (blkM js ρ) >>= fun ys => newL ys) ι1 S1 H1 (okD X.K Q) := by
    have c1' : cont X.K noX ((if it.items.length ≤ lim then compD it g t m it.items (blkM js ρ) else M.fail) >>= fun ys => newL ys) ι1 S1 H1 (okD X.K Q) := c1
    by_cases h : it.items.length ≤ lim
    · rw [if_pos h] at c1'; exact ⟨h, c1'⟩
    · rw [if_neg h] at c1'; exact (cont_fail (cont_bind c1')).elim
  obtain ⟨hlen, c1⟩ := hcl
  have re1 : RelE X.K ι1 H1 (blkM js ρ) (blk0 js σ) := (re.later rep e1).blk js
  refine ⟨fun i n σc Hc => ∃ ι2 S2 ρ2 xs vs, n = it.items.length - i ∧ i ≤ it.items.length ∧ Ext ι1 H1 ι2 (hid Hc p) ∧ Rep X.K ι2 (hid Hc p) S2 ∧ RelE X.K ι2 (hid Hc p) ρ2 σc ∧ Hc p = some (.lst vs) ∧ p ∉ ι2 ∧ RelDs X.K ι2 (hid Hc p) xs vs ∧ xs.length ≤ i ∧
    cont X.K noX (compD it g t m (it.items.drop i) ρ2 >>= fun ys => newL (xs ++ ys)) ι2 S2 (hid Hc p) (okD X.K Q), ⟨_, ι1, S1, blkM js ρ, [], [], rfl, Nat.zero_le _, ?_, ?_, ?_, upd_same, rep1.free hp, .nil, Nat.zero_le _, ?_⟩, ?_⟩
  · rw [hide_upd, hide_fresh hp]; exact .refl
  · rw [hide_upd, hide_fresh hp]; exact rep1
  · rw [hide_upd, hide_fresh hp]; exact re1
  · rw [hide_upd, hide_fresh hp]; exact c1
  rintro i n σc Hc ⟨ι2, S2, ρ2, xs, vs, hn, hi', e2, rep2, re2, hpc, hpn, rx, hlim, c2⟩
  by_cases hlt : i < it.items.length
  · have hd : it.items.drop i = it.items[i] :: it.items.drop (i + 1) := List.drop_eq_getElem_cons hlt
    rw [hd] at c2
    have c2' : cont X.K noX (chkM it >>= fun _ => g it.items[i] ρ2 >>= fun ρ1 => t ρ1 >>= fun b => if b = true then m ρ1 >>= fun y => compD it g t m (it.items.drop (i + 1)) ρ1 >>= fun ys => newL (xs ++ y :: ys) else compD it g t m (it.items.drop (i + 1)) ρ1 >>= fun ys => newL (xs ++ ys)) ι2 S2 (hid Hc p) (okD X.K Q) := by
      have : (compD it g t m (it.items[i] :: it.items.drop (i + 1)) ρ2 >>= fun ys => newL (xs ++ ys)) = (chkM it >>= fun _ => g it.items[i] ρ2 >>= fun ρ1 => t ρ1 >>= fun b => if b = true then m ρ1 >>= fun y => compD it g t m (it.items.drop (i + 1)) ρ1 >>= fun ys => newL (xs ++ y :: ys) else compD it g t m (it.items.drop (i + 1)) ρ1 >>= fun ys => newL (xs ++ ys)) := by
        show ((chkM it >>= fun _ => g it.items[i] ρ2 >>= fun ρ1 => t ρ1 >>= fun b => if b = true then m ρ1 >>= fun y => compD it g t m (it.items.drop (i + 1)) ρ1 >>= fun ys => pure (y :: ys) else compD it g t m (it.items.drop (i + 1)) ρ1) >>= fun ys => newL (xs ++ ys)) = _
        simp only [bnd_assoc, bnd_ite, pure_bnd]
      rw [← this]; exact c2
    obtain ⟨ok, c3⟩ := cont_chk c2' rep2
    obtain ⟨hgo, hst⟩ := hJ ι2 Hc S2 e2.unhide rep2.unhide ok i
    obtain ⟨go, yl⟩ := hgo it.items[i] (List.getElem?_eq_getElem hlt)
    refine .inr ⟨go, fun σ' H' => ∃ ι3 S3 ρ3 xs3 vs3, Ext ι1 H1 ι3 (hid H' p) ∧ Rep X.K ι3 (hid H' p) S3 ∧ RelE X.K ι3 (hid H' p) ρ3 σ' ∧ H' p = some (.lst vs3) ∧ p ∉ ι3 ∧ RelDs X.K ι3 (hid H' p) xs3 vs3 ∧ xs3.length ≤ i + 1 ∧
      cont X.K noX (compD it g t m (it.items.drop (i + 1)) ρ3 >>= fun ys => newL (xs3 ++ ys)) ι3 S3 (hid H' p) (okD X.K Q), ?_, fun x H3 hy => ?_⟩
    · rintro σ' H' ⟨ι3, S3, ρ3, xs3, vs3, h1, h2, h3, h4, h5, h6, h7, h8⟩
      exact ⟨_, by omega, ι3, S3, ρ3, xs3, vs3, rfl, hlt, h1, h2, h3, h4, h5, h6, h7, h8⟩
    · obtain ⟨e3, rep3, rd⟩ := yl x H3 hy
      obtain ⟨hp3, _⟩ := e3.oth p _ hpc hpn
      have e3h : Ext ι2 (hid Hc p) ι2 (hid H3 p) := e3.hide
      have c4 := cont_bind (cont_later c3 e3h)
      refine ⟨ι2, S2, ρ2, it.items[i], rep3, re2.unhide.later rep2.unhide e3, rd, cont_mono (cont_hide (E := noX) c4 hp3 hpn) fun ρ4 ι4 S4 H4 e4 rep4 ⟨hp4, hn4, c5⟩ σ4 re4 => ?_⟩
      have rep4h : Rep X.K ι4 (hid H4 p) S4 := rep4.hide hp4 hn4
      have e24 : Ext ι2 (hid Hc p) ι4 (hid H4 p) := e3h.trans e4.hide
      refine ⟨ι4, S4, ρ4, rep4, re4, cont_mono (cont_hide (E := noX) (cont_bind c5) hp4 hn4) fun b ι5 S5 H5 e5 rep5 ⟨hp5, hn5, c6⟩ => ?_⟩
      have rep5h : Rep X.K ι5 (hid H5 p) S5 := rep5.hide hp5 hn5
      have e25 : Ext ι2 (hid Hc p) ι5 (hid H5 p) := e24.trans e5.hide
      have re5 : RelE X.K ι5 H5 ρ4 σ4 := re4.later rep4 e5
      cases b with
      | false =>
        have c6' : cont X.K noX (compD it g t m (it.items.drop (i + 1)) ρ4 >>= fun ys => newL (xs ++ ys)) ι5 S5 (hid H5 p) (okD X.K Q) := c6
        exact ⟨ι5, S5, ρ4, xs, vs, e2.trans e25, rep5h, re5.hide hp5, hp5, hn5, rx.later rep2 e25, by omega, c6'⟩
      | true =>
        have c6' : cont X.K noX (m ρ4 >>= fun y => compD it g t m (it.items.drop (i + 1)) ρ4 >>= fun ys => newL (xs ++ y :: ys)) ι5 S5 (hid H5 p) (okD X.K Q) := c6
        refine ⟨ι5, S5, ρ4, rep5, re5, cont_mono (cont_hide (E := noX) (cont_bind c6') hp5 hn5) fun y ι6 S6 H6 e6 rep6 ⟨hp6, hn6, c7⟩ yv ry => ?_⟩
        have e26 : Ext ι2 (hid Hc p) ι6 (hid H6 p) := e25.trans e6.hide
        have rep6h : Rep X.K ι6 (hid H6 p) S6 := rep6.hide hp6 hn6
        have rx6 := rx.later rep2 e26
        have hl : vs.length < sizeLine := by rw [← rx6.length]; exact Nat.lt_of_le_of_lt (by omega) lim_lt
        refine ⟨vs, hp6, hl, ι6, S6, ρ4, xs ++ [y], vs ++ [yv], ?_⟩
        rw [hide_upd]
        refine ⟨e2.trans e26, rep6h, (re5.later rep5 e6).hide hp6, upd_same, hn6, rx6.append (.cons (ry.hide hp6) .nil), by simp; omega, by simpa using c7⟩
  · have hd : it.items.drop i = [] := List.drop_eq_nil_of_le (by omega)
    rw [hd] at c2
    have c2' : cont X.K noX (chkM it >>= fun _ => newL (xs ++ [])) ι2 S2 (hid Hc p) (okD X.K Q) := by
      have : (compD it g t m [] ρ2 >>= fun ys => newL (xs ++ ys)) = (chkM it >>= fun _ => newL (xs ++ [])) := by
        show ((chkM it >>= fun _ => pure []) >>= fun ys => newL (xs ++ ys)) = _
        simp only [bnd_assoc, pure_bnd]
      rw [← this]; exact c2
    obtain ⟨ok, c3⟩ := cont_chk c2' rep2
    rw [List.append_nil] at c3
    refine .inl ⟨(hJ ι2 Hc S2 e2.unhide rep2.unhide ok i).2 (by omega), ?_⟩
    have := (cont_newL' c3 rep2 rx).2 p hide_at
    rw [upd_hide hpc] at this
    exact this
theorem se_comp (c : CompScope X scope Nc js) (hc : X.calm = true) (hi : SI X noX tg iter mi)
    (hin : ∀ C ex s H, SG (compCx X scope Nc C ex s H) noX tg g ∧ STs (compCx X scope Nc C ex s H) noX ifs t ∧ SE (compCx X scope Nc C ex s H) noX elt m)
    (hs : ∀ x, foldedSetIterable iter X.env x = pure x := by intro _; rfl) : SE X noX (.ListComp elt [⟨tg, iter, ifs, 0⟩] scope pos) (fun ρ => do let it ← mi ρ; let ys ← compAll it g t m (blkM js ρ); newL ys) :=
  PE.imp (pe_comp (g := tMG X.K noX g) (tt := tMT X.K noX t) (te := tM X.K noX m) c hc hi hin hs) fun _ _ _ q => tComp_of q
end
section
variable {P : Program} {w : World} {K : PySem.W.Frag} {mg : Str → Option Value} {base : Heap}
def outD : Out → M D
  | .nx _ => pure .non
  | .ret d => pure d
  | _ => M.fail
def fnD (N n : Nat) (m : TMS) : List D → M D := fun ds => if ds.length = n then do let o ← m (ds.map some ++ List.replicate (N - n) none); outD o else M.fail
theorem fn_M {x qual : Str} {st : Stmt} {f : Addr} {fd : FuncData} {N ps : List Str} {k : Nat} {m : TMS} (F : Fun K x qual st f fd) (Sc : FnScope N ps (defScope st))
    (hbody : ∀ (cdv : Value) (A : Around) (outer : List Env) (s : Shared) (H : Hp) (E : XK), Room k (A.deeper (envOfC qual (defScope st) s.heap.objs.size f cdv)) →
      SSs (cxOf CX0 P w K mg base N qual (defScope st) f cdv A outer s H E).nox noX (defBody st) m) : FnOk P w K mg base CX0 (k + 1) f fd ps (spM K (fnD N.length ps.length m)) := by
  have key : ∀ {vs : List V} {H : Hp} {Q : VK} {E : XK}, spM K (fnD N.length ps.length m) vs H Q E → vs.length = ps.length ∧ ∃ ι S ds, Rep K ι H S ∧ RelDs K ι H ds vs ∧ cont K noX (do let o ← m (ds.map some ++ List.replicate (N.length - ps.length) none); outD o) ι S H (okD K Q) := by
    rintro vs H Q E ⟨ι, S, ds, rep, r, c⟩
    unfold fnD at c
    by_cases hl : ds.length = ps.length
    · rw [if_pos hl] at c
      exact ⟨by rw [← r.length]; exact hl, ι, S, ds, rep, r, c⟩
    · rw [if_neg hl] at c
      exact (cont_fail c).elim
  refine F.ok Sc (fun vs H Q E h => (key h).1) fun cdv A outer s H vs Q E hr h => ⟨_, hbody cdv A outer s H E hr, ?_⟩
  obtain ⟨hl, ι, S, ds, rep, r, c⟩ := key h
  refine ⟨ι, S, _, rep, ?_, cont_mono (cont_bind c) fun o ι1 S1 H1 e1 rep1 c1 => ?_⟩
  · have := RelE.start r (N.length - ps.length)
    unfold L2.start
    rw [hl]; exact this
  · cases o with
    | nx ρ => exact fun σ re => cont_pure c1 .refl rep1 _ .non
    | ret d => exact cont_pure c1 .refl rep1
    | bk ρ => exact (cont_fail c1).elim
    | ct ρ => exact (cont_fail c1).elim
end
end S3
end
section
set_option maxRecDepth 100000
set_option maxHeartbeats 4000000
namespace S3
open PySem PySem.Spec PyProof.Rows L2
theorem OpD.or {K : PySem.W.Frag} {E : XD} {f : D → D → M D} {r r' : R2} (h : ∀ ι S H d1 d2 v1 v2 Q, Rep K ι H S → RelD K ι H d1 v1 → RelD K ι H d2 v2 → cont K E (f d1 d2) ι S H (okD K Q) → r v1 v2 H Q ∨ r' v1 v2 H Q) : OpD K E f (fun x y H Q => r x y H Q ∨ r' x y H Q) := h
def int2 (f : Int → Int → M D) : D → D → M D
  | .int i, .int j => f i j
  | _, _ => M.fail
theorem opd_int {K : PySem.W.Frag} {E : XD} {g : Int → Int → V} {f : Int → Int → D} (hg : ∀ ι H i j, RelD K ι H (f i j) (g i j)) : OpD K E (int2 fun i j => pure (f i j)) (rI0 g) := by
  intro ι S H d1 d2 v1 v2 Q rep r1 r2 c
  cases d1 <;> cases d2 <;> first
    | exact (cont_fail c).elim
    | exact ⟨_, _, r1.int_inv, r2.int_inv, cont_pure c .refl rep _ (hg _ _ _ _)⟩
theorem opd_intC {K : PySem.W.Frag} {E : XD} {C : Int → Int → Prop} [∀ i j, Decidable (C i j)] {g : Int → Int → V} {f : Int → Int → D} (hg : ∀ ι H i j, RelD K ι H (f i j) (g i j)) : OpD K E (int2 fun i j => if C i j then pure (f i j) else M.fail) (rI C g) := by
  intro ι S H d1 d2 v1 v2 Q rep r1 r2 c
  cases d1 <;> cases d2 <;> first
    | exact (cont_fail c).elim
    | (next i j =>
        have c' : cont K E (if C i j then pure (f i j) else M.fail) ι S H (okD K Q) := c
        by_cases h : C i j
        · rw [if_pos h] at c'
          exact ⟨_, _, r1.int_inv, r2.int_inv, h, cont_pure c' .refl rep _ (hg _ _ _ _)⟩
        · rw [if_neg h] at c'
          exact (cont_fail c').elim)
def subD : D → D → M D := int2 fun i j => pure (.int (i - j))
instance : ∀ i j, Decidable (CMul i j) := fun i j => inferInstanceAs (Decidable (_ ∨ _))
instance : ∀ i j, Decidable (CDiv i j) := fun i j => inferInstanceAs (Decidable (_ ∧ _))
instance : ∀ i j, Decidable (CPow i j) := fun i j => inferInstanceAs (Decidable (_ ∧ _))
def mulD : D → D → M D := int2 fun i j => if CMul i j then pure (.int (i * j)) else M.fail
def fdivD : D → D → M D := int2 fun i j => if CDiv i j then pure (.int (i / j)) else M.fail
def modD : D → D → M D := int2 fun i j => if 0 < j then pure (.int (i % j)) else M.fail
def powD : D → D → M D := int2 fun i j => if CPow i j then pure (.int (i ^ j.toNat)) else M.fail
def addD : D → D → M D
  | .int i, .int j => pure (.int (i + j))
  | .tup xs, .tup ys => mkTup (xs ++ ys)
  | .lst a, .lst b => do let xs ← getL a; let ys ← getL b; newL (xs ++ ys)
  | _, _ => M.fail
def ltD0 : D → D → M D := int2 fun i j => pure (.bl (decide (i < j)))
def leD : D → D → M D := int2 fun i j => pure (.bl (decide (i ≤ j)))
def gtD : D → D → M D := int2 fun i j => pure (.bl (decide (j < i)))
def geD : D → D → M D := int2 fun i j => pure (.bl (decide (j ≤ i)))
section
variable {X : Cx} {E : XD} {a b e c : Expr} {m n l : TM} {pos : Pos}
theorem se_sub (ha : SE X E a m) (hb : SE X E b n) : SE X E (.BinOp a .Sub b pos) (fun ρ => do let x ← m ρ; let y ← n ρ; subD x y) := se_op op_sub (opd_int fun _ _ _ _ => .int _) ha hb
theorem se_mul (ha : SE X E a m) (hb : SE X E b n) : SE X E (.BinOp a .Mult b pos) (fun ρ => do let x ← m ρ; let y ← n ρ; mulD x y) := se_op op_mul (opd_intC fun _ _ _ _ => .int _) ha hb
theorem se_fdiv (ha : SE X E a m) (hb : SE X E b n) : SE X E (.BinOp a .FloorDiv b pos) (fun ρ => do let x ← m ρ; let y ← n ρ; fdivD x y) := se_op op_fdiv (opd_intC fun _ _ _ _ => .int _) ha hb
theorem se_mod (ha : SE X E a m) (hb : SE X E b n) : SE X E (.BinOp a .Mod b pos) (fun ρ => do let x ← m ρ; let y ← n ρ; modD x y) := se_op op_mod (opd_intC (C := fun _ j => 0 < j) fun _ _ _ _ => .int _) ha hb
theorem se_pow (ha : SE X E a m) (hb : SE X E b n) : SE X E (.BinOp a .Pow b pos) (fun ρ => do let x ← m ρ; let y ← n ρ; powD x y) := se_op op_pow (opd_intC fun _ _ _ _ => .int _) ha hb
theorem op_catT0 : OpR X (binaryOp .Add) (fun x y H Q => ∃ a b ys, x = .ref a ∧ y = .ref b ∧ SqT X.K H a [] ∧ SqT X.K H b ys ∧ Q (.ref b) H) := by
  intro pins s σ H x y v u Q I rx ry h
  obtain ⟨a, b, ys, rfl, rfl, ha, hb, q⟩ := h
  cases rx
  cases ry
  obtain ⟨its, r1, p1, _⟩ := I.tuple ha
  obtain ⟨its2, r2, p2, _⟩ := I.tuple hb
  cases r1
  obtain ⟨⟨cls, dd, data, sl⟩, ho, hc, n, hd⟩ := id p1
  obtain ⟨⟨cls2, dd2, data2, sl2⟩, ho2, hc2, n2, hd2⟩ := id p2
  simp only at hc hd hc2 hd2
  subst hc hd hc2 hd2
  exact concat_meets ⟨_, ho, rfl⟩ ⟨_, ho2, rfl⟩ noFill_tuple_add seq_tuple_add PySem.F.slot_tuple_add PySem.F.entry_tuple_add (PySem.F.args_tuple_add_2 _ _)
    (tuple_addW0 a b #[] its2.toArray n n2 dd dd2 sl sl2 (by simp)) ⟨ho, ho2, ⟨.ref b, H, I, rfl, q⟩⟩
theorem se_add (ha : SE X E a m) (hb : SE X E b n) : SE X E (.BinOp a .Add b pos) (fun ρ => do let x ← m ρ; let y ← n ρ; addD x y) := by
  refine se_op (op_add.or (op_catT.or (op_catT0.or op_cat))) ?_ ha hb
  intro ι S H d1 d2 v1 v2 Q rep r1 r2 c
  cases d1 <;> cases d2 <;> first
    | exact (cont_fail c).elim
    | exact .inl ⟨_, _, r1.int_inv, r2.int_inv, cont_pure c .refl rep _ (.int _)⟩
    | (next xs ys =>
        obtain ⟨p, vs, rfl, h1, q1⟩ := r1.tup_inv
        obtain ⟨q, ws, rfl, h2, q2⟩ := r2.tup_inv
        obtain ⟨hl, hq⟩ := cont_mkTup c rep (q1.append q2)
        rw [List.length_append] at hl
        cases vs with
        | nil =>
          refine .inr (.inr (.inl ⟨p, q, ws, rfl, rfl, .of h1, .of h2, ?_⟩))
          exact cont_tupAt c rep h2 (q1.append q2)
        | cons v vs =>
          refine .inr (.inl ⟨p, q, v :: vs, ws, rfl, rfl, .of h1, .of h2, by simp, Nat.le_trans hl lim_le, fun z => ?_, fun _ => hq⟩)
          subst z
          have := q1.append q2
          rw [List.append_nil] at this
          exact cont_tupAt c rep h1 this)
    | (next j k =>
        obtain ⟨p, rfl, h1⟩ := r1.lst_inv
        obtain ⟨q, rfl, h2⟩ := r2.lst_inv
        obtain ⟨ds, vs, _, hv, rv, c1⟩ := cont_getL c rep h1
        obtain ⟨es, ws, _, hw, rw', c2⟩ := cont_getL c1 rep h2
        obtain ⟨hl, hq⟩ := cont_newL' c2 rep (rv.append rw')
        rw [List.length_append] at hl
        exact .inr (.inr (.inr ⟨p, q, vs, ws, rfl, rfl, hv, hw, Nat.le_trans hl lim_le, hq⟩)))
theorem sb_gt (ha : SE X E a m) (hb : SE X E b n) : SB X E (.Compare a [.Gt] [b] pos) (fun ρ => do let z ← (do let x ← m ρ; let y ← n ρ; gtD x y); asB z) := sb_cmp op_gt (opd_int fun _ _ _ _ => .bl _) ha hb
theorem sb_ge (ha : SE X E a m) (hb : SE X E b n) : SB X E (.Compare a [.GtE] [b] pos) (fun ρ => do let z ← (do let x ← m ρ; let y ← n ρ; geD x y); asB z) := sb_cmp op_ge (opd_int fun _ _ _ _ => .bl _) ha hb
def intsOf : List D → Option (List Int)
  | [] => some []
  | .int i :: r => (intsOf r).map (i :: ·)
  | _ => none
theorem intsOf_rel {K : PySem.W.Frag} {ι : List Addr} {H : Hp} : ∀ {ds : List D} {vs : List V} {ns : List Int}, RelDs K ι H ds vs → intsOf ds = some ns → vs = ns.map V.int
  | [], vs, ns, h, e => by cases e; rw [h.nil_inv]; rfl
  | .int i :: ds, vs, ns, h, e => by
    obtain ⟨v, ws, rfl, r1, r2⟩ := h.cons_inv
    cases q : intsOf ds with
    | none => simp [intsOf, q] at e
    | some ks =>
      simp [intsOf, q] at e
      subst e
      rw [r1.int_inv, intsOf_rel r2 q]; rfl
  | .non :: _, _, _, _, e => by cases e
  | .bl _ :: _, _, _, _, e => by cases e
  | .str _ :: _, _, _, _, e => by cases e
  | .tup _ :: _, _, _, _, e => by cases e
  | .lst _ :: _, _, _, _, e => by cases e
  | .ro _ :: _, _, _, _, e => by cases e
  | .emp :: _, _, _, _, e => by cases e
def ltD : D → D → M D
  | .int i, .int j => pure (.bl (decide (i < j)))
  | .tup xs, .tup ys => match intsOf xs, intsOf ys with
    | some ns, some ms => pure (.bl (HT.lexLt ns ms))
    | _, _ => M.fail
  | _, _ => M.fail
theorem opd_lt : OpD X.K E ltD (fun x y H Q => rI0 (fun i j => .bl (decide (i < j))) x y H Q ∨ rLtT X.K x y H Q) := by
  intro ι S H d1 d2 v1 v2 Q rep r1 r2 c
  cases d1 <;> cases d2 <;> first
    | exact (cont_fail c).elim
    | exact .inl ⟨_, _, r1.int_inv, r2.int_inv, cont_pure c .refl rep _ (.bl _)⟩
    | (next xs ys =>
        obtain ⟨p, vs, rfl, h1, q1⟩ := r1.tup_inv
        obtain ⟨q, ws, rfl, h2, q2⟩ := r2.tup_inv
        dsimp only [ltD] at c
        split at c
        · next ns ms e1 e2 =>
          refine .inr ⟨p, q, ns, ms, rfl, rfl, .of (by rw [← intsOf_rel q1 e1]; exact h1), .of (by rw [← intsOf_rel q2 e2]; exact h2), cont_pure c .refl rep _ (.bl _)⟩
        · exact (cont_fail c).elim)
theorem se_lt (hu : X.A.units < cLine) (ha : SE X E a m) (hb : SE X E b n) : SE X E (.Compare a [.Lt] [b] pos) (fun ρ => do let x ← m ρ; let y ← n ρ; ltD x y) := se_cmp (op_lt.or (op_ltT hu)) opd_lt ha hb
theorem sb_lt (hu : X.A.units < cLine) (ha : SE X E a m) (hb : SE X E b n) : SB X E (.Compare a [.Lt] [b] pos) (fun ρ => do let z ← (do let x ← m ρ; let y ← n ρ; ltD x y); asB z) := sb_cmp (op_lt.or (op_ltT hu)) opd_lt ha hb
def cmpI (f : Int → Int → Bool) : D → D → M D := int2 fun i j => pure (.bl (f i j))
theorem chain_of {f g : D → D → M D} {r r' : R2} (hf : OpD X.K E f r) (hg : OpD X.K E g r') {σ : St} {H : Hp} {Q : VK}
    (h : tM X.K E (fun ρ => do let x ← m ρ; let y ← n ρ; let z ← f x y; let k ← asB z; if k = true then do let w ← l ρ; g y w else pure (.bl false)) σ H Q) : tChain r r' (tM X.K E m) (tM X.K E n) (tM X.K E l) σ H Q := by
  obtain ⟨ι, S, ρ, rep, re, c⟩ := h
  refine ⟨ι, S, ρ, rep, re, cont_mono (cont_bind c) fun x ι1 S1 H1 e1 rep1 c1 v1 r1 => ?_⟩
  refine ⟨ι1, S1, ρ, rep1, re.later rep e1, cont_mono (cont_bind c1) fun y ι2 S2 H2 e2 rep2 c2 v2 r2 => ?_⟩
  refine hf ι2 S2 H2 x y v1 v2 _ rep2 (r1.later rep1 e2) r2 (cont_mono (cont_bind c2) fun z ι3 S3 H3 e3 rep3 c3 v3 r3 => ?_)
  obtain ⟨k, rfl, rfl, c4⟩ := asB_inv rep3 r3 c3
  refine ⟨k, rfl, ?_⟩
  cases k with
  | true =>
    exact ⟨ι3, S3, ρ, rep3, ((re.later rep e1).later rep1 e2).later rep2 e3, cont_mono (cont_bind c4) fun w ι4 S4 H4 e4 rep4 c5 v4 r4 => hg ι4 S4 H4 y w v2 v4 Q rep4 ((r2.later rep2 e3).later rep3 e4) r4 c5⟩
  | false => exact cont_pure c4 .refl rep3 _ (.bl false)
theorem se_chain {op op' : CmpOp} {f g : D → D → M D} {r r' : R2} (h : OpR X (compareOp op) r) (h' : OpR X (compareOp op') r') (hf : OpD X.K E f r) (hg : OpD X.K E g r') (ha : SE X E a m) (hb : SE X E b n) (hc : SE X E c l)
    (hm : lastMarks [op, op'] [b, c] = false := by with_unfolding_all rfl) :
    SE X E (.Compare a [op, op'] [b, c] pos) (fun ρ => do let x ← m ρ; let y ← n ρ; let z ← f x y; let k ← asB z; if k = true then do let w ← l ρ; g y w else pure (.bl false)) :=
  PE.imp (pe_chain h h' ha hb hc hm) fun _ _ _ q => chain_of hf hg q
theorem sb_chain {op op' : CmpOp} {f g : D → D → M D} {r r' : R2} (h : OpR X (compareOp op) r) (h' : OpR X (compareOp op') r') (hf : OpD X.K E f r) (hg : OpD X.K E g r') (ha : SE X E a m) (hb : SE X E b n) (hc : SE X E c l)
    (hm : lastMarks [op, op'] [b, c] = false := by with_unfolding_all rfl) :
    SB X E (.Compare a [op, op'] [b, c] pos) (fun ρ => do let v ← (do let x ← m ρ; let y ← n ρ; let z ← f x y; let k ← asB z; if k = true then do let w ← l ρ; g y w else pure (.bl false)); asB v) :=
  PT.imp (pt_chain h h' ha hb hc hm) fun σ H Q q => by
    obtain ⟨ι, S, ρ, rep, re, c⟩ := q
    refine chain_of hf hg (Q := fun x H' => ∃ k, x = .bl k ∧ Q k H') ⟨ι, S, ρ, rep, re, cont_mono (cont_bind c) fun x ι1 S1 H1 e1 rep1 c1 v1 r1 => ?_⟩
    obtain ⟨k, rfl, rfl, c2⟩ := asB_inv' rep1 r1 c1
    exact ⟨k, rfl, c2⟩
def ixD : D → D → M D
  | .lst k, .int i => do
    let xs ← getL k
    match atI xs i with
    | some d => pure d
    | none => M.fail
  | .tup xs, .int i => match atI xs i with
    | some d => pure d
    | none => M.fail
  | .ro xs, .int i => match atI xs i with
    | some d => pure d
    | none => M.fail
  | _, _ => M.fail
theorem atI_rel {K : PySem.W.Frag} {ι : List Addr} {H : Hp} {ds : List D} {vs : List V} {i : Int} {d : D} (h : RelDs K ι H ds vs) (e : atI ds i = some d) : ∃ v, atI vs i = some v ∧ RelD K ι H d v := by
  unfold atI at e ⊢
  rw [h.length] at e
  cases q : ixN vs.length i with
  | none => rw [q] at e; cases e
  | some j =>
    rw [q] at e
    exact h.get' e
theorem opd_ix : OpD X.K E ixD (rIx X.K) := by
  intro ι S H d1 d2 v1 v2 Q rep r1 r2 c
  cases d1 <;> cases d2 <;> first
    | exact (cont_fail c).elim
    | (next k i =>
        obtain ⟨p, rfl, h1⟩ := r1.lst_inv
        obtain ⟨ds, vs, _, hv, rv, c1⟩ := cont_getL c rep h1
        cases q : atI ds i with
        | none => rw [q] at c1; exact (cont_fail c1).elim
        | some d =>
          rw [q] at c1
          obtain ⟨v, e1, e2⟩ := atI_rel rv q
          exact .inl ⟨p, vs, i, v, rfl, r2.int_inv, .of hv, e1, cont_pure c1 .refl rep _ e2⟩)
    | (next ds i =>
        obtain ⟨p, vs, rfl, h1, rv⟩ := r1.tup_inv
        dsimp only [ixD] at c
        cases q : atI ds i with
        | none => rw [q] at c; exact (cont_fail c).elim
        | some d =>
          rw [q] at c
          obtain ⟨v, e1, e2⟩ := atI_rel rv q
          exact .inr (.inl ⟨p, vs, i, v, rfl, r2.int_inv, .of h1, e1, cont_pure c .refl rep _ e2⟩))
    | (next ds i =>
        obtain ⟨p, vs, rfl, h1, rv⟩ := r1.ro_inv
        dsimp only [ixD] at c
        cases q : atI ds i with
        | none => rw [q] at c; exact (cont_fail c).elim
        | some d =>
          rw [q] at c
          obtain ⟨v, e1, e2⟩ := atI_rel rv q
          exact .inl ⟨p, vs, i, v, rfl, r2.int_inv, h1.sq, e1, cont_pure c .refl rep _ e2⟩)
theorem se_item (ha : SE X E a m) (hb : SE X E b n) (hs : PlainIx b := by intro _ _; rfl) : SE X E (.Subscript a b pos) (fun ρ => do let x ← m ρ; let y ← n ρ; ixD x y) := se_ix ix_seq opd_ix ha hb hs
end
end S3
end
section
set_option maxRecDepth 100000
set_option maxHeartbeats 4000000
namespace S3
open PySem PySem.Spec PyProof.Rows L2
mutual
inductive ReadsV (H : Hp) : V → PyData → Prop where
  | non : ReadsV H .non .none
  | bl (b : Bool) : ReadsV H (.bl b) (.bool b)
  | int (i : Int) : ReadsV H (.int i) (.int i)
  | str (x : Str) : ReadsV H (.str x) (.str x)
  | lst {a : Addr} {vs : List V} {ps : List PyData} : Rd H a (.lst vs) → ReadsVs H vs ps → ReadsV H (.ref a) (.list ps)
  | tup {a : Addr} {vs : List V} {ps : List PyData} : H a = some (.tup vs) → ReadsVs H vs ps → ReadsV H (.ref a) (.tuple ps)
inductive ReadsVs (H : Hp) : List V → List PyData → Prop where
  | nil : ReadsVs H [] []
  | cons {v : V} {p : PyData} {vs : List V} {ps : List PyData} : ReadsV H v p → ReadsVs H vs ps → ReadsVs H (v :: vs) (p :: ps)
end
mutual
theorem ReadsV.heap {P : Program} {w : World} {H : Hp} {h : Heap} (ok : HOk P w H h) : ∀ {v : V} {p : PyData}, ReadsV H v p → ∀ {u : Value}, RelV v u → ∃ as, Reads h u p as
  | _, _, .non, u, r => by cases (show u = Value.none from r); exact ⟨_, .none⟩
  | _, _, .bl b, u, r => by cases (show u = Value.bool b from r); exact ⟨_, .bool b⟩
  | _, _, .int i, u, r => by obtain ⟨t, rfl⟩ := (show ∃ t, u = Value.int i t from r); exact ⟨_, .int i t⟩
  | _, _, .str x, u, r => by obtain ⟨t, rfl⟩ := (show ∃ t, u = Value.str x t from r); exact ⟨_, .str x t⟩
  | _, _, @ReadsV.lst _ a vs ps h1 h2, u, r => by
    cases (show u = Value.ref a from r)
    obtain ⟨_, its, n, rv, e⟩ := (show ObjOk P w H h a (.lst vs) from h1.ok ok)
    obtain ⟨as, q⟩ := ReadsVs.heap ok h2 rv
    exact ⟨_, .list e rfl rfl (by simpa using q)⟩
  | _, _, @ReadsV.tup _ a vs ps h1 h2, u, r => by
    cases (show u = Value.ref a from r)
    obtain ⟨_, its, rv, o, e, c, n, d⟩ := (show ObjOk P w H h a (.tup vs) from ok a _ h1)
    obtain ⟨as, q⟩ := ReadsVs.heap ok h2 rv
    exact ⟨_, .tuple e c d (by simpa using q)⟩
theorem ReadsVs.heap {P : Program} {w : World} {H : Hp} {h : Heap} (ok : HOk P w H h) : ∀ {vs : List V} {ps : List PyData}, ReadsVs H vs ps → ∀ {us : List Value}, Vals vs us → ∃ as, ReadsAll h us ps as
  | _, _, .nil, us, r => by cases r; exact ⟨_, .nil⟩
  | _, _, .cons h1 h2, us, r => by
    cases r with
    | cons r1 r2 =>
      obtain ⟨as, q⟩ := ReadsV.heap ok h1 r1
      obtain ⟨bs, q'⟩ := ReadsVs.heap ok h2 r2
      exact ⟨_, .cons q q'⟩
end
def mapP (f : D → Option PyData) : List D → Option (List PyData)
  | [] => some []
  | d :: ds => match f d, mapP f ds with
    | some p, some ps => some (p :: ps)
    | _, _ => none
def toP (S : Store) : Nat → D → Option PyData
  | _, .non => some .none
  | _, .bl b => some (.bool b)
  | _, .int i => some (.int i)
  | _, .str x => if PyData.strOk x = true then some (.str x) else none
  | n + 1, .tup ds => (mapP (toP S n) ds).map .tuple
  | n + 1, .lst k => (S[k]?).bind fun xs => (mapP (toP S n) xs).map .list
  | _, _ => none
section
variable {K : PySem.W.Frag} {ι : List Addr} {S : Store} {H : Hp}
theorem mapP_rel {f : D → Option PyData} {n : Nat} (hf : ∀ d p v, f d = some p → RelD K ι H d v → ReadsV H v p ∧ p.canLay0 = true ∧ p.depth ≤ n) :
    ∀ {ds : List D} {ps : List PyData} {vs : List V}, mapP f ds = some ps → RelDs K ι H ds vs → ReadsVs H vs ps ∧ PyData.canLayAll0 ps = true ∧ PyData.depthAll ps ≤ n
  | [], ps, vs, e, r => by
    cases e
    rw [r.nil_inv]
    exact ⟨.nil, rfl, Nat.zero_le _⟩
  | d :: ds, ps, vs, e, r => by
    obtain ⟨v, ws, rfl, r1, r2⟩ := r.cons_inv
    unfold mapP at e
    cases q : f d with
    | none => rw [q] at e; cases e
    | some p =>
      rw [q] at e
      cases q2 : mapP f ds with
      | none => rw [q2] at e; cases e
      | some ps' =>
        rw [q2] at e
        cases e
        obtain ⟨h1, h2, h3⟩ := hf d p v q r1
        obtain ⟨k1, k2, k3⟩ := mapP_rel hf q2 r2
        refine ⟨.cons h1 k1, ?_, ?_⟩
        · show (PyData.canLay0 p && PyData.canLayAll0 ps') = true
          rw [h2, k2]; rfl
        · show max p.depth (PyData.depthAll ps') ≤ n
          exact Nat.max_le.mpr ⟨h3, k3⟩
theorem toP_rel (rep : Rep K ι H S) : ∀ (n : Nat) (d : D) (p : PyData) (v : V), toP S n d = some p → RelD K ι H d v → ReadsV H v p ∧ p.canLay0 = true ∧ p.depth ≤ n := by
  intro n
  induction n with
  | zero =>
    intro d p v e r
    cases d with
    | non => cases e; rw [r.non_inv]; exact ⟨.non, rfl, Nat.le_refl _⟩
    | bl b => cases e; rw [r.bl_inv]; exact ⟨.bl b, rfl, Nat.le_refl _⟩
    | int i => cases e; rw [r.int_inv]; exact ⟨.int i, rfl, Nat.le_refl _⟩
    | str x =>
      unfold toP at e
      split at e
      · next hs => cases e; rw [r.str_inv]; exact ⟨.str x, hs, Nat.le_refl _⟩
      · cases e
    | _ => cases e
  | succ n ih =>
    intro d p v e r
    cases d with
    | non => cases e; rw [r.non_inv]; exact ⟨.non, rfl, Nat.zero_le _⟩
    | bl b => cases e; rw [r.bl_inv]; exact ⟨.bl b, rfl, Nat.zero_le _⟩
    | int i => cases e; rw [r.int_inv]; exact ⟨.int i, rfl, Nat.zero_le _⟩
    | str x =>
      unfold toP at e
      split at e
      · next hs => cases e; rw [r.str_inv]; exact ⟨.str x, hs, Nat.zero_le _⟩
      · cases e
    | tup ds =>
      obtain ⟨a, vs, rfl, h1, h2⟩ := r.tup_inv
      unfold toP at e
      cases q : mapP (toP S n) ds with
      | none => rw [q] at e; cases e
      | some ps =>
        rw [q] at e; cases e
        obtain ⟨k1, k2, k3⟩ := mapP_rel ih q h2
        exact ⟨.tup h1 k1, k2, Nat.succ_le_succ k3⟩
    | lst k =>
      obtain ⟨a, rfl, h1⟩ := r.lst_inv
      unfold toP at e
      cases z : S[k]? with
      | none => rw [z] at e; cases e
      | some xs =>
        rw [z] at e
        obtain ⟨vs, h3, h2⟩ := rep.get k a xs h1 z
        cases q : mapP (toP S n) xs with
        | none => simp [q] at e
        | some ps =>
          simp [q] at e
          subst e
          obtain ⟨k1, k2, k3⟩ := mapP_rel ih q h2
          exact ⟨.lst (.inl h3) k1, k2, Nat.succ_le_succ k3⟩
    | ro ds => cases e
    | emp => cases e
end
def eqM (f : PyData → PyData → Bool) : D → D → M D := fun a b S => match toP S 60 a, toP S 60 b with
  | some p, some q => some (.ok (.bl (f p q)), S)
  | _, _ => none
def eqD : D → D → M D := eqM PyData.eqv
def neD : D → D → M D := eqM fun p q => !PyData.eqv p q
def inP (f : Bool → Bool) : PyData → PyData → Option Bool
  | d, .list xs => some (f (xs.any fun y => PyData.eqv y d))
  | d, .tuple xs => some (f (xs.any fun y => PyData.eqv y d))
  | _, _ => none
def inM (f : Bool → Bool) : D → D → M D := fun a b S => match toP S 60 a, toP S 60 b with
  | some p, some q => match inP f p q with
    | some r => some (.ok (.bl r), S)
    | none => none
  | _, _ => none
def inD : D → D → M D := inM id
def notInD : D → D → M D := inM (!·)
section
variable {X : Cx} {E : XD} {a b e : Expr} {m n : TM} {pos : Pos}
def rEqP (f : PyData → PyData → Bool) : R2 := fun x y H Q => ∃ p q, (ReadsV H x p ∧ p.canLay0 = true ∧ p.depth ≤ 60) ∧ (ReadsV H y q ∧ q.canLay0 = true ∧ q.depth ≤ 60) ∧ Q (.bl (f p q)) H
theorem shaped_of {p : PyData} (h : p.canLay0 = true) (hd : p.depth ≤ 60) : SeqAt.shaped p = true := by
  unfold SeqAt.shaped
  rw [h, Bool.true_and]
  exact decide_eq_true (by omega)
theorem op_eqP (hu : X.A.units + 64 < cLine) : OpR X (compareOp .Eq) (rEqP PyData.eqv) := by
  intro pins s σ H x y v u Q I rx ry h
  obtain ⟨p, q, ⟨p1, p2, p3⟩, ⟨q1, q2, q3⟩, h⟩ := h
  obtain ⟨as, ra⟩ := p1.heap I.hok rx
  obtain ⟨bs, rb⟩ := q1.heap I.hok ry
  exact eq_dataH ra rb (shaped_of p2 p3) (shaped_of q2 q3) hu ⟨.bl _, H, I, rfl, h⟩
theorem op_neP (hu : X.A.units + 64 < cLine) : OpR X (compareOp .NotEq) (rEqP fun p q => !PyData.eqv p q) := by
  intro pins s σ H x y v u Q I rx ry h
  obtain ⟨p, q, ⟨p1, p2, p3⟩, ⟨q1, q2, q3⟩, h⟩ := h
  obtain ⟨as, ra⟩ := p1.heap I.hok rx
  obtain ⟨bs, rb⟩ := q1.heap I.hok ry
  exact ne_dataH ra rb (shaped_of p2 p3) (shaped_of q2 q3) hu ⟨.bl _, H, I, rfl, h⟩
theorem opd_eqM {f : PyData → PyData → Bool} : OpD X.K E (eqM f) (rEqP f) := by
  intro ι S H d1 d2 v1 v2 Q rep r1 r2 c
  obtain ⟨r, S', e, k⟩ := c
  unfold eqM at e
  split at e
  · next p q hp hq =>
    cases e
    exact ⟨p, q, toP_rel rep 60 d1 p v1 hp r1, toP_rel rep 60 d2 q v2 hq r2, k ι H .refl rep _ (.bl _)⟩
  · cases e
theorem se_eq (hu : X.A.units + 64 < cLine) (ha : SE X E a m) (hb : SE X E b n) : SE X E (.Compare a [.Eq] [b] pos) (fun ρ => do let x ← m ρ; let y ← n ρ; eqD x y) := se_cmp (op_eqP hu) opd_eqM ha hb
theorem sb_eq (hu : X.A.units + 64 < cLine) (ha : SE X E a m) (hb : SE X E b n) : SB X E (.Compare a [.Eq] [b] pos) (fun ρ => do let z ← (do let x ← m ρ; let y ← n ρ; eqD x y); asB z) := sb_cmp (op_eqP hu) opd_eqM ha hb
theorem sb_ne (hu : X.A.units + 64 < cLine) (ha : SE X E a m) (hb : SE X E b n) : SB X E (.Compare a [.NotEq] [b] pos) (fun ρ => do let z ← (do let x ← m ρ; let y ← n ρ; neD x y); asB z) := sb_cmp (op_neP hu) opd_eqM ha hb
def rInP (f : Bool → Bool) : R2 := fun x y H Q => ∃ p q r, (ReadsV H x p ∧ p.canLay0 = true ∧ p.depth ≤ 60) ∧ (ReadsV H y q ∧ q.canLay0 = true ∧ q.depth ≤ 60) ∧ inP f p q = some r ∧ Q (.bl r) H
theorem opd_inM {f : Bool → Bool} : OpD X.K E (inM f) (rInP f) := by
  intro ι S H d1 d2 v1 v2 Q rep r1 r2 c
  obtain ⟨r, S', e, k⟩ := c
  unfold inM at e
  split at e
  · next p q hp hq =>
    split at e
    · next r hr =>
      cases e
      exact ⟨p, q, r, toP_rel rep 60 d1 p v1 hp r1, toP_rel rep 60 d2 q v2 hq r2, hr, k ι H .refl rep _ (.bl _)⟩
    · cases e
  · cases e
theorem depth_list {xs : List PyData} (h : (PyData.list xs).depth ≤ 60) : PyData.depthAll xs ≤ 60 := Nat.le_of_succ_le h
theorem depth_tuple {xs : List PyData} (h : (PyData.tuple xs).depth ≤ 60) : PyData.depthAll xs ≤ 60 := Nat.le_of_succ_le h
theorem op_inP (hu : X.A.units + 64 < cLine) : OpR X (compareOp .In) (rInP id) := by
  intro pins s σ H x y v u Q I rx ry h
  obtain ⟨p, q, r, ⟨p1, p2, p3⟩, ⟨q1, q2, q3⟩, hr, h⟩ := h
  obtain ⟨as, ra⟩ := p1.heap I.hok rx
  obtain ⟨bs, rb⟩ := q1.heap I.hok ry
  cases q with
  | list xs =>
    cases hr
    exact SeqAt.in_list_reads rb ra q2 p2 (by have := depth_list q3; have : min (PyData.depthAll xs) p.depth ≤ 60 := Nat.le_trans (Nat.min_le_left _ _) this; omega) ⟨.bl _, H, I, rfl, h⟩
  | tuple xs =>
    cases hr
    exact SeqAt.in_tuple_reads rb ra q2 p2 (by have := depth_tuple q3; have : min (PyData.depthAll xs) p.depth ≤ 60 := Nat.le_trans (Nat.min_le_left _ _) this; omega) ⟨.bl _, H, I, rfl, h⟩
  | _ => cases hr
theorem se_in (hu : X.A.units + 64 < cLine) (ha : SE X E a m) (hb : SE X E b n) (hm : behindInMarks .In b = false := by rfl) : SE X E (.Compare a [.In] [b] pos) (fun ρ => do let x ← m ρ; let y ← n ρ; inD x y) := se_cmp (op_inP hu) opd_inM ha hb hm
end
end S3
end
section
set_option maxRecDepth 100000
set_option maxHeartbeats 4000000
namespace S3
open PySem PySem.Spec PyProof.Rows L2
section
variable {X : Cx} {E : XD} {a b e c : Expr} {m n l : TM} {pos p2 : Pos} {es : List Expr} {ms : Env0 → M (List D)}
def isD (f : Bool → Bool) : D → D → M D
  | .bl i, .bl j => pure (.bl (f (i == j)))
  | d, .non => match d with
    | .non => pure (.bl (f true))
    | _ => pure (.bl (f false))
  | _, _ => M.fail
theorem op_is : OpR X (compareOp .Is) (fun x y H Q => ∃ i j, x = .bl i ∧ y = .bl j ∧ Q (.bl (i == j)) H) := by
  intro pins s σ H x y v u Q I rx ry h
  obtain ⟨i, j, rfl, rfl, q⟩ := h
  cases rx
  cases ry
  exact is_bool ⟨.bl _, H, I, rfl, q⟩
theorem op_isnot : OpR X (compareOp .IsNot) (fun x y H Q => ∃ i j, x = .bl i ∧ y = .bl j ∧ Q (.bl (!(i == j))) H) := by
  intro pins s σ H x y v u Q I rx ry h
  obtain ⟨i, j, rfl, rfl, q⟩ := h
  cases rx
  cases ry
  exact isnot_bool ⟨.bl _, H, I, rfl, q⟩
theorem opd_is {f : Bool → Bool} : OpD X.K E (isD f) (fun x y H Q => (∃ i j, x = .bl i ∧ y = .bl j ∧ Q (.bl (f (i == j))) H) ∨ (y = .non ∧ Q (.bl (f (decide (x = .non)))) H)) := by
  intro ι S H d1 d2 v1 v2 Q rep r1 r2 c
  cases d2 with
  | non =>
    refine .inr ⟨r2.non_inv, ?_⟩
    cases d1 with
    | non => rw [r1.non_inv]; exact cont_pure c .refl rep _ (.bl _)
    | bl i => rw [r1.bl_inv]; exact cont_pure c .refl rep _ (.bl _)
    | int i => rw [r1.int_inv]; exact cont_pure c .refl rep _ (.bl _)
    | str i => rw [r1.str_inv]; exact cont_pure c .refl rep _ (.bl _)
    | tup ds => obtain ⟨p, vs, rfl, _, _⟩ := r1.tup_inv; exact cont_pure c .refl rep _ (.bl _)
    | lst k => obtain ⟨p, rfl, _⟩ := r1.lst_inv; exact cont_pure c .refl rep _ (.bl _)
    | ro ds => obtain ⟨p, vs, rfl, _, _⟩ := r1.ro_inv; exact cont_pure c .refl rep _ (.bl _)
    | emp => cases r1; exact cont_pure c .refl rep _ (.bl _)
  | bl j =>
    cases d1 with
    | bl i => exact .inl ⟨i, j, r1.bl_inv, r2.bl_inv, cont_pure c .refl rep _ (.bl _)⟩
    | _ => exact (cont_fail c).elim
  | _ => cases d1 <;> exact (cont_fail c).elim
theorem se_is (ha : SE X E a m) (hb : SE X E b n) : SE X E (.Compare a [.Is] [b] pos) (fun ρ => do let x ← m ρ; let y ← n ρ; isD id x y) := se_cmp (op_is.or op_isN) (opd_is (f := id)) ha hb
theorem sb_isNot (ha : SE X E a m) (hb : SE X E b n) : SB X E (.Compare a [.IsNot] [b] pos) (fun ρ => do let z ← (do let x ← m ρ; let y ← n ρ; isD (!·) x y); asB z) := sb_cmp (op_isnot.or op_notN) (opd_is (f := (!·))) ha hb
def asI : D → M Int
  | .int i => pure i
  | _ => M.fail
def tMO (K : PySem.W.Frag) (E : XD) (m : Env0 → M (Option Int)) : TO := fun σ H Q => ∃ ι S ρ, Rep K ι H S ∧ RelE K ι H ρ σ ∧ cont K E (m ρ) ι S H (fun o _ _ H' => Q o H')
def SO (X : Cx) (E : XD) (o : Option Expr) (m : Env0 → M (Option Int)) : Prop := PO X o (tMO X.K E m)
theorem PO.imp {X : Cx} {e : Option Expr} {t t' : TO} (h : PO X e t) (k : ∀ σ H Q, t' σ H Q → t σ H Q) : PO X e t' := fun pins s σ H Q I hw => h pins s σ H Q I (k σ H Q hw)
theorem so_none : SO X E none (fun _ => pure none) := by
  refine PO.imp po_none fun σ H Q h => ?_
  obtain ⟨ι, S, ρ, rep, re, c⟩ := h
  exact cont_pure c .refl rep
theorem so_some (h : SE X E e m) : SO X E (some e) (fun ρ => do let x ← m ρ; let i ← asI x; pure (some i)) := by
  refine PO.imp (po_some h) fun σ H Q h => ?_
  obtain ⟨ι, S, ρ, rep, re, c⟩ := h
  refine ⟨ι, S, ρ, rep, re, cont_mono (cont_bind c) fun x ι1 S1 H1 e1 rep1 c1 v r => ?_⟩
  cases x with
  | int i => exact ⟨i, r.int_inv, cont_pure (cont_pure (cont_bind c1) .refl rep1) .refl rep1⟩
  | _ => exact (cont_fail (cont_bind c1)).elim
def cutD (xs : List D) (lo hi : Option Int) : List D := (xs.drop (HT.sIx xs.length 0 lo)).take (HT.sIx xs.length xs.length hi - HT.sIx xs.length 0 lo)
theorem cut_rel {K : PySem.W.Frag} {ι : List Addr} {H : Hp} {ds : List D} {vs : List V} (lo hi : Option Int) (h : RelDs K ι H ds vs) : RelDs K ι H (cutD ds lo hi) (cutV vs lo hi) := by
  unfold cutD cutV
  rw [h.length]
  exact (h.drop _).take _
def sliceD : D → Option Int → Option Int → M D
  | .tup xs, lo, hi => mkTup (cutD xs lo hi)
  | .lst k, lo, hi => do let xs ← getL k; newL (cutD xs lo hi)
  | _, _, _ => M.fail
theorem sl_tupW : SlR X (fun x lo hi H Q => ∃ a xs, x = .ref a ∧ SqT X.K H a xs ∧ (HT.sIx xs.length 0 lo = 0 ∧ HT.sIx xs.length xs.length hi = xs.length) ∧ Q (.ref a) H) := by
  intro pins s σ H x v vl vu lo hi sl Q I rx hs pl pu h
  obtain ⟨a, xs, rfl, hx, hw, q⟩ := h
  cases rx
  obtain ⟨its, r, ht, hz⟩ := I.tuple hx
  have hlen : its.toArray.size = xs.length := by rw [List.size_toArray]; exact r.length.symm
  refine ⟨"tuple", _, PyProof.Rows.slot_tuple_getitem.lookup, ht.typeIs, ?_⟩
  have fin : EP X pins σ Q (.ref a) s := ⟨.ref a, H, I, rfl, q⟩
  obtain ⟨os, hos, hcs, hds⟩ := id hs
  have hTs : s.TypeIs (.ref sl) "slice" := ⟨os, hos, hcs⟩
  unfold getItem
  try with_reducible refine wpAny_holding ?_
  first | refine wpAny_bind (wpAny_pure ?_) | skip
  refine wpAny_bind (wpAny_sequenceKey ht.typeIs (by decide) ?_)
  refine wpAny_bind (wpAny_callSpecial?_slot (name := Str.ofString "__getitem__") ht.typeIs PyProof.Rows.slot_tuple_getitem
    (wpAny_call_entry PyProof.Rows.slot_tuple_getitem ht.typeIs entry_tuple_getitem ?_ (args_tuple_getitem _ _)))
  show wpAny _ _ (Builtin.Tuple.tupleItemsOf (.ref a) >>= _) _ _ s
  refine wpAny_bind (tupleItemsOf_ ht (wpAny_bind (wpAny_typeOf hTs ?_)))
  rw [if_pos (by decide)]
  refine wpAny_bind (HT.sliceApplied_gen hs pl pu ?_)
  rw [hlen, hw.1, hw.2]
  show wpAny _ _ (if ((((0 : Nat) : Int)) == 0 && (1 : Int) == 1 && (xs.length - 0) == xs.length) = true then _ else _) _ _ s
  rw [if_pos (by simp)]
  unfold Builtin.Tuple.tupleIsExact
  refine wpAny_bind (wpAny_bind (wpAny_typeOf ht.typeIs (wpAny_pure ?_)))
  rw [if_pos (by decide)]
  first
    | exact wpAny_bind (wpAny_rule (wpAny_pure ⟨_, rfl, wpAny_pure fin⟩))
    | exact wpAny_bind (wpAny_rule (wpAny_bind (wpAny_pure (wpAny_pure ⟨_, rfl, wpAny_pure fin⟩))))
theorem cutV_whole {xs : List V} {lo hi : Option Int} (h : HT.sIx xs.length 0 lo = 0 ∧ HT.sIx xs.length xs.length hi = xs.length) : cutV xs lo hi = xs := by
  unfold cutV
  rw [h.1, h.2, List.drop_zero, Nat.sub_zero, List.take_length]
theorem se_slice {lo hi : Option Expr} {ml mh : Env0 → M (Option Int)} (he : SE X E e m) (hl : SO X E lo ml) (hh : SO X E hi mh) :
    SE X E (.Subscript e (.Slice lo hi none p2) pos) (fun ρ => do let x ← m ρ; let i ← ml ρ; let j ← mh ρ; sliceD x i j) := by
  refine PE.imp (pe_slice (sl_tup.or (sl_tupW.or sl_list)) he hl hh) fun σ H Q h => ?_
  obtain ⟨ι, S, ρ, rep, re, c⟩ := h
  refine ⟨ι, S, ρ, rep, re, cont_mono (cont_bind c) fun x ι1 S1 H1 e1 rep1 c1 v r => ?_⟩
  refine ⟨ι1, S1, ρ, rep1, re.later rep e1, cont_mono (cont_bind c1) fun i ι2 S2 H2 e2 rep2 c2 => ?_⟩
  refine ⟨ι2, S2, ρ, rep2, (re.later rep e1).later rep1 e2, cont_mono (cont_bind c2) fun j ι3 S3 H3 e3 rep3 c3 => ?_⟩
  have r3 := (r.later rep1 e2).later rep2 e3
  cases x with
  | tup ds =>
    obtain ⟨p, vs, rfl, h1, h2⟩ := r3.tup_inv
    by_cases hw : HT.sIx vs.length 0 i = 0 ∧ HT.sIx vs.length vs.length j = vs.length
    · refine .inr (.inl ⟨p, vs, rfl, .of h1, hw, cont_tupAt c3 rep3 h1 ?_⟩)
      have := cut_rel i j h2
      rw [cutV_whole hw] at this
      exact this
    · exact .inl ⟨p, vs, rfl, .of h1, hw, (cont_mkTup c3 rep3 (cut_rel i j h2)).2⟩
  | lst k =>
    obtain ⟨p, rfl, h1⟩ := r3.lst_inv
    obtain ⟨ds, vs, _, hv, rv, c4⟩ := cont_getL c3 rep3 h1
    exact .inr (.inr ⟨p, vs, rfl, .of hv, (cont_newL' c4 rep3 (cut_rel i j rv)).2⟩)
  | _ => exact (cont_fail c3).elim
end
end S3
end
section
set_option maxRecDepth 100000
set_option maxHeartbeats 4000000
namespace S3
open PySem PySem.Spec PyProof.Rows L2
section
variable {X : Cx} {E : XD} {a b e c o : Expr} {m n l : TM} {pos p2 : Pos} {es : List Expr} {ms : Env0 → M (List D)}
def lenD : List D → M D
  | [.lst k] => do let xs ← getL k; pure (.int xs.length)
  | [.tup ds] => pure (.int ds.length)
  | [.ro ds] => pure (.int ds.length)
  | _ => M.fail
theorem calld_len : CallD X.K E lenD (fun xs H Q => ∃ p ys, xs = [.ref p] ∧ (SqL X.K H p ys ∨ SqT X.K H p ys) ∧ Q (.int ys.length) H) := by
  intro ι S H ds vs Q rep r c
  match ds, r, c with
  | [.lst k], r, c =>
    obtain ⟨v, ws, rfl, r1, r2⟩ := r.cons_inv
    cases r2.nil_inv
    obtain ⟨p, rfl, h1⟩ := r1.lst_inv
    obtain ⟨es, us, _, hv, rv, c4⟩ := cont_getL c rep h1
    refine ⟨p, us, rfl, .inl (.of hv), ?_⟩
    have := cont_pure c4 .refl rep _ (.int _)
    rw [rv.length] at this; exact this
  | [.tup es], r, c =>
    obtain ⟨v, ws, rfl, r1, r2⟩ := r.cons_inv
    cases r2.nil_inv
    obtain ⟨p, us, rfl, h1, rv⟩ := r1.tup_inv
    refine ⟨p, us, rfl, .inr (.of h1), ?_⟩
    have := cont_pure c .refl rep _ (.int _)
    rw [rv.length] at this; exact this
  | [.ro es], r, c =>
    obtain ⟨v, ws, rfl, r1, r2⟩ := r.cons_inv
    cases r2.nil_inv
    obtain ⟨p, us, rfl, h1, rv⟩ := r1.ro_inv
    refine ⟨p, us, rfl, .inl h1.sq, ?_⟩
    have := cont_pure c .refl rep _ (.int _)
    rw [rv.length] at this; exact this
  | [], r, c => exact (cont_fail c).elim
  | [.non], r, c => exact (cont_fail c).elim
  | [.bl _], r, c => exact (cont_fail c).elim
  | [.int _], r, c => exact (cont_fail c).elim
  | [.str _], r, c => exact (cont_fail c).elim
  | [.emp], r, c => exact (cont_fail c).elim
  | d :: d2 :: r', r, c => cases d <;> exact (cont_fail c).elim
theorem se_len {p : Pos} (hm : X.mg "len" = none) (ha : SE X E e m) (hg : Gl X "len" := by rfl) (hs : starEach [e] X.env = [(false, eval e X.env)] := by rfl) : SE X E (.Call (.Name "len" p) [e] [] pos) (fun ρ => do let ds ← (do let x ← m ρ; let xs ← pure []; pure (x :: xs)); lenD ds) :=
  se_callB call_len_seq calld_len hg hm PySem.boot_len (sa_cons ha sa_nil hs) (by decide) (by decide) hs rfl
def int2L (f : Int → Int → Int) : List D → M D
  | [.int i, .int j] => pure (.int (f i j))
  | _ => M.fail
theorem calld_int2 {f : Int → Int → Int} : CallD X.K E (int2L f) (fun xs H Q => ∃ i j, xs = [.int i, .int j] ∧ Q (.int (f i j)) H) := by
  intro ι S H ds vs Q rep r c
  unfold int2L at c
  split at c
  · next i j =>
    obtain ⟨v, ws, rfl, r1, r2⟩ := r.cons_inv
    obtain ⟨v', ws', rfl, r3, r4⟩ := r2.cons_inv
    cases r4.nil_inv
    rw [r1.int_inv, r3.int_inv]
    exact ⟨i, j, rfl, cont_pure c .refl rep _ (.int _)⟩
  · exact (cont_fail c).elim
def maxD : List D → M D := int2L fun i j => if j > i then j else i
def minD : List D → M D := int2L fun i j => if j < i then j else i
theorem se_max {p : Pos} (hc : X.calm = true) (hm : X.mg "max" = none) (ha : SA X E [a, b] ms) (hg : Gl X "max" := by rfl) (hs : starEach [a, b] X.env = [(false, eval a X.env), (false, eval b X.env)] := by rfl) (hs2 : starEach [b] X.env = [(false, eval b X.env)] := by rfl) :
    SE X E (.Call (.Name "max" p) [a, b] [] pos) (fun ρ => do let ds ← ms ρ; maxD ds) :=
  se_callB (call_max2 hc) calld_int2 hg hm (by decide +kernel) ha (by decide) (by decide) (by rw [hs, hs2]) (by rw [hs2]; rfl)
theorem se_min {p : Pos} (hc : X.calm = true) (hm : X.mg "min" = none) (ha : SA X E [a, b] ms) (hg : Gl X "min" := by rfl) (hs : starEach [a, b] X.env = [(false, eval a X.env), (false, eval b X.env)] := by rfl) (hs2 : starEach [b] X.env = [(false, eval b X.env)] := by rfl) :
    SE X E (.Call (.Name "min" p) [a, b] [] pos) (fun ρ => do let ds ← ms ρ; minD ds) :=
  se_callB (call_min2 hc) calld_int2 hg hm (by decide +kernel) ha (by decide) (by decide) (by rw [hs, hs2]) (by rw [hs2]; rfl)
def listD : List D → M D
  | [.lst k] => do let xs ← getL k; newL xs
  | [.tup ds] => newL ds
  | [.ro ds] => newL ds
  | _ => M.fail
def tupleD : List D → M D
  | [.lst k] => do let xs ← getL k; mkTup xs
  | [.tup ds] => mkTup ds
  | _ => M.fail
theorem calld_list : CallD X.K E listD (fun xs H Q => ∃ p ys, xs = [.ref p] ∧ (SqL X.K H p ys ∨ SqT X.K H p ys) ∧ ∀ l, H l = none → Q (.ref l) (upd H l (.lst ys))) := by
  intro ι S H ds vs Q rep r c
  unfold listD at c
  split at c
  · next k =>
    obtain ⟨v, ws, rfl, r1, r2⟩ := r.cons_inv
    cases r2.nil_inv
    obtain ⟨p, rfl, h1⟩ := r1.lst_inv
    obtain ⟨es, us, _, hv, rv, c4⟩ := cont_getL c rep h1
    exact ⟨p, us, rfl, .inl (.of hv), (cont_newL' c4 rep rv).2⟩
  · next es =>
    obtain ⟨v, ws, rfl, r1, r2⟩ := r.cons_inv
    cases r2.nil_inv
    obtain ⟨p, us, rfl, h1, rv⟩ := r1.tup_inv
    exact ⟨p, us, rfl, .inr (.of h1), (cont_newL' c rep rv).2⟩
  · next es =>
    obtain ⟨v, ws, rfl, r1, r2⟩ := r.cons_inv
    cases r2.nil_inv
    obtain ⟨p, us, rfl, h1, rv⟩ := r1.ro_inv
    exact ⟨p, us, rfl, .inl h1.sq, (cont_newL' c rep rv).2⟩
  · exact (cont_fail c).elim
theorem calld_tuple : CallD X.K E tupleD (fun xs H Q => ∃ p ys, xs = [.ref p] ∧ ((SqL X.K H p ys ∧ ∀ l, H l = none → Q (.ref l) (upd H l (.tup ys))) ∨ (SqT X.K H p ys ∧ Q (.ref p) H))) := by
  intro ι S H ds vs Q rep r c
  unfold tupleD at c
  split at c
  · next k =>
    obtain ⟨v, ws, rfl, r1, r2⟩ := r.cons_inv
    cases r2.nil_inv
    obtain ⟨p, rfl, h1⟩ := r1.lst_inv
    obtain ⟨es, us, _, hv, rv, c4⟩ := cont_getL c rep h1
    exact ⟨p, us, rfl, .inl ⟨.of hv, (cont_mkTup c4 rep rv).2⟩⟩
  · next es =>
    obtain ⟨v, ws, rfl, r1, r2⟩ := r.cons_inv
    cases r2.nil_inv
    obtain ⟨p, us, rfl, h1, rv⟩ := r1.tup_inv
    exact ⟨p, us, rfl, .inr ⟨.of h1, cont_tupAt c rep h1 rv⟩⟩
  · exact (cont_fail c).elim
theorem se_list {p : Pos} (hm : X.mg "list" = none) (ha : SE X E e m) (hg : Gl X "list" := by rfl) (hs : starEach [e] X.env = [(false, eval e X.env)] := by rfl) : SE X E (.Call (.Name "list" p) [e] [] pos) (fun ρ => do let ds ← (do let x ← m ρ; let xs ← pure []; pure (x :: xs)); listD ds) :=
  se_callTy call_list_of calld_list hg hm (by decide +kernel) (sa_cons ha sa_nil hs) (by decide) (by decide) hs rfl
theorem se_tuple {p : Pos} (hm : X.mg "tuple" = none) (ha : SE X E e m) (hg : Gl X "tuple" := by rfl) (hs : starEach [e] X.env = [(false, eval e X.env)] := by rfl) : SE X E (.Call (.Name "tuple" p) [e] [] pos) (fun ρ => do let ds ← (do let x ← m ρ; let xs ← pure []; pure (x :: xs)); tupleD ds) :=
  se_callTy call_tuple_of calld_tuple hg hm (by decide +kernel) (sa_cons ha sa_nil hs) (by decide) (by decide) hs rfl
def strD : List D → M D
  | [.int i] => if i.natAbs.log2 < 1920 then pure (.str (toString i)) else M.fail
  | _ => M.fail
theorem calld_str : CallD X.K E strD (fun xs H Q => ∃ i, xs = [.int i] ∧ i.natAbs.log2 < 1920 ∧ Q (.str (toString i)) H) := by
  intro ι S H ds vs Q rep r c
  unfold strD at c
  split at c
  · next i =>
    obtain ⟨v, ws, rfl, r1, r2⟩ := r.cons_inv
    cases r2.nil_inv
    rw [r1.int_inv]
    split at c
    · next h => exact ⟨i, rfl, h, cont_pure c .refl rep _ (.str _)⟩
    · exact (cont_fail c).elim
  · exact (cont_fail c).elim
theorem se_strI {p : Pos} (hm : X.mg "str" = none) (ha : SE X E e m) (hg : Gl X "str" := by rfl) (hs : starEach [e] X.env = [(false, eval e X.env)] := by rfl) : SE X E (.Call (.Name "str" p) [e] [] pos) (fun ρ => do let ds ← (do let x ← m ρ; let xs ← pure []; pure (x :: xs)); strD ds) :=
  se_callTy call_str_int calld_str hg hm (by decide +kernel) (sa_cons ha sa_nil hs) (by decide) (by decide) hs rfl
def tyN (H : Hp) : V → Option String
  | .non => some "NoneType"
  | .bl _ => some "bool"
  | .int _ => some "int"
  | .str _ => some "str"
  | .ref a => match H a with
    | some (.lst _) => some "list"
    | some (.frz _ (.lst _)) => some "list"
    | some (.tup _) => some "tuple"
    | some (.dK _) => some "dict"
    | _ => none
  | _ => none
theorem tyN_ok {K : PySem.W.Frag} {H : Hp} {v : V} {T : String} (h : tyN H v = some T) : TyOf K H v (.type T) := by
  cases v with
  | non => cases h; exact .non
  | bl b => cases h; exact .bl b
  | int i => cases h; exact .int i
  | str x => cases h; exact .str x
  | ref a =>
    simp only [tyN] at h
    split at h
    · next q => cases h; exact .lst q
    · next q => cases h; exact .frz q
    · next q => cases h; exact .tup q
    · next q => cases h; exact .dK q
    · cases h
  | _ => cases h
def dTy : D → String
  | .non => "NoneType"
  | .bl _ => "bool"
  | .int _ => "int"
  | .str _ => "str"
  | .tup _ => "tuple"
  | .lst _ => "list"
  | .ro _ => "list"
  | .emp => "dict"
theorem dTy_ok {K : PySem.W.Frag} {ι : List Addr} {S : Store} {H : Hp} {d : D} {v : V} (rep : Rep K ι H S) (r : RelD K ι H d v) (hd : ∀ ds, d ≠ .ro ds) : tyN H v = some (dTy d) := by
  cases r with
  | non => rfl
  | bl => rfl
  | int => rfl
  | str => rfl
  | tup h _ => simp [tyN, h, dTy]
  | lst h =>
    obtain ⟨vs, e⟩ := rep.isL (List.mem_of_getElem? h)
    simp [tyN, e, dTy]
  | ro h _ => exact absurd rfl (hd _)
  | emp h => simp [tyN, h, dTy]
def isiD (f : String → Bool) : D → M D
  | .ro _ => M.fail
  | d => pure (.bl (f (dTy d)))
theorem isiD_inv {K : PySem.W.Frag} {E : XD} {ι : List Addr} {S : Store} {H : Hp} {f : String → Bool} {d : D} {Q : D → List Addr → Store → Hp → Prop} (c : cont K E (isiD f d) ι S H Q) : (∀ ds, d ≠ .ro ds) ∧ cont K E (pure (.bl (f (dTy d)))) ι S H Q := by
  cases d with
  | ro ds => exact (cont_fail c).elim
  | _ => exact ⟨(fun _ z => by cases z), c⟩
def sub1 (t T : String) : Bool := t == T || (t == "bool" && T == "int")
theorem kit_sub (K : PySem.W.Frag) (t : String) (ht : t ∈ ["NoneType", "bool", "int", "str", "tuple", "list", "dict"]) (T : String) (hT : T ∈ ["bool", "int", "str", "tuple", "list"]) : PySem.W.kitOne K (.type t) (.type T) = some (sub1 t T) := by
  simp only [List.mem_cons, List.not_mem_nil, or_false] at ht hT
  rcases ht with rfl | rfl | rfl | rfl | rfl | rfl | rfl <;> rcases hT with rfl | rfl | rfl | rfl | rfl <;> rfl
theorem dTy_mem (d : D) : dTy d ∈ ["NoneType", "bool", "int", "str", "tuple", "list", "dict"] := by cases d <;> simp [dTy]
theorem call_isi : CallR X (.builtin "isinstance") (fun xs H Q => ∃ x t T, xs = [x, .ty T] ∧ tyN H x = some t ∧ t ∈ ["NoneType", "bool", "int", "str", "tuple", "list", "dict"] ∧ T ∈ ["bool", "int", "str", "tuple", "list"] ∧ Q (.bl (sub1 t T)) H) := by
  intro pins s σ H xs us Q I r h
  obtain ⟨x, t, T, rfl, h1, h2, h3, q⟩ := h
  obtain ⟨u, w', rfl, ru, rw'⟩ := vals2 r
  cases (show w' = Value.type T from rw')
  exact isinst_ok I ru (tyN_ok h1) (kit_sub X.K t h2 T h3) fun tk => ⟨.bl _, H, I.tok tk, rfl, q⟩
theorem se_isi {p q : Pos} {T : Str} {Ts : String} (hm : X.mg "isinstance" = none) (hmT : X.mg T = none) (he : SE X E e m) (hv : bootBuiltins T = some (.type Ts) := by decide +kernel) (hTs : Ts ∈ ["bool", "int", "str", "tuple", "list"] := by decide) (hg : Gl X "isinstance" := by rfl) (hgT : Gl X T := by rfl)
    (hn : T ≠ "__name__" := by decide) (hd : (T == ("__debug__" : Str)) = false := by decide)
    (hs : starEach [e, .Name T q] X.env = [(false, eval e X.env), (false, eval (.Name T q) X.env)] := by rfl) (hs2 : starEach [.Name T q] X.env = [(false, eval (.Name T q) X.env)] := by rfl) :
    SE X E (.Call (.Name "isinstance" p) [e, .Name T q] [] pos) (fun ρ => do let x ← m ρ; isiD (fun t => sub1 t Ts) x) := by
  refine PE.imp (pe_callB call_isi hg hm (by decide +kernel) (pa_cons he (pa_cons (pe_bltn hgT hmT hv (v := .ty Ts) rfl hn hd) pa_nil hs2) (by rw [hs, hs2])) (by decide) (by decide) (by rw [hs, hs2]) (by rw [hs2]; rfl)) fun σ H Q h => ?_
  obtain ⟨ι, S, ρ, rep, re, c⟩ := h
  refine ⟨ι, S, ρ, rep, re, cont_mono (cont_bind c) fun x ι1 S1 H1 e1 rep1 c1 v r => ?_⟩
  obtain ⟨hd, c1⟩ := isiD_inv c1
  exact ⟨v, dTy x, Ts, rfl, dTy_ok rep1 r hd, dTy_mem x, hTs, cont_pure c1 .refl rep1 _ (.bl _)⟩
theorem call_isi2 : CallR X (.builtin "isinstance") (fun xs H Q => ∃ x t p T U, xs = [x, .ref p] ∧ H p = some (.tup [.ty T, .ty U]) ∧ tyN H x = some t ∧ t ∈ ["NoneType", "bool", "int", "str", "tuple", "list", "dict"] ∧ T ∈ ["bool", "int", "str", "tuple", "list"] ∧ U ∈ ["bool", "int", "str", "tuple", "list"] ∧
    Q (.bl (sub1 t T || sub1 t U)) H) := by
  intro pins s σ H xs us Q I r h
  obtain ⟨x, t, p, T, U, rfl, hp, h1, h2, h3, h4, q⟩ := h
  obtain ⟨u, w', rfl, ru, rw'⟩ := vals2 r
  cases (show w' = Value.ref p from rw')
  obtain ⟨_, its, rv, ⟨cls, dd, data, sl⟩, ho, hc, n, hd⟩ := (show ObjOk X.prog X.w H s.heap p (.tup [.ty T, .ty U]) from I.hok p _ hp)
  simp only at hc hd
  subst hc hd
  obtain ⟨z1, z2, rfl, y1, y2⟩ := vals2 rv
  cases (show z1 = Value.type T from y1)
  cases (show z2 = Value.type U from y2)
  have e : PySem.W.kitAny X.K (.type t) [.type T, .type U] = some (sub1 t T || sub1 t U) := by
    unfold PySem.W.kitAny PySem.W.kitAny PySem.W.kitAny
    rw [kit_sub X.K t h2 T h3, kit_sub X.K t h2 U h4]
    cases sub1 t T <;> cases sub1 t U <;> rfl
  have fin : ∀ tk, EP X pins σ Q (.bool (sub1 t T || sub1 t U)) { s with toks := tk } := fun tk => ⟨.bl _, H, I.tok tk, rfl, q⟩
  have ty := tyN_ok (K := X.K) h1
  generalize hT : Value.type t = tv at ty e
  cases ty with
  | non => cases (show u = Value.none from ru); exact PySem.W.kia_tup PySem.W.kitx_none I.kIn True.intro ho e (fun z => nomatch z) fin
  | bl y => cases (show u = Value.bool y from ru); exact PySem.W.kia_tup PySem.W.kitx_bool I.kIn True.intro ho e (fun z => nomatch z) fin
  | int i => obtain ⟨t, q⟩ := (show ∃ t, u = Value.int i t from ru); cases q; exact PySem.W.kia_tup PySem.W.kitx_int I.kIn True.intro ho e (fun z => nomatch z) fin
  | str y => obtain ⟨t, q⟩ := (show ∃ t, u = Value.str y t from ru); cases q; exact PySem.W.kia_tup PySem.W.kitx_str I.kIn True.intro ho e (fun z => nomatch z) fin
  | flt y => obtain ⟨t, q⟩ := (show ∃ t, u = Value.float y t from ru); cases q; exact PySem.W.kia_tup PySem.W.kitx_float I.kIn True.intro ho e (fun z => nomatch z) fin
  | @lst a xs ea =>
    cases (show u = Value.ref a from ru)
    obtain ⟨_, _, n, _, h1⟩ := (show ObjOk X.prog X.w H s.heap a (.lst xs) from I.hok a _ ea)
    exact PySem.W.kia_tup PySem.W.kitx_list I.kIn ⟨_, h1, rfl⟩ ho e (fun z => nomatch z) fin
  | @frz a ob xs ea =>
    cases (show u = Value.ref a from ru)
    obtain ⟨_, _, _, n, _, h1⟩ := (show ObjOk X.prog X.w H s.heap a (.frz ob (.lst xs)) from I.hok a _ ea)
    exact PySem.W.kia_tup PySem.W.kitx_list I.kIn ⟨_, h1, rfl⟩ ho e (fun z => nomatch z) fin
  | @tup a xs ea =>
    cases (show u = Value.ref a from ru)
    obtain ⟨_, _, _, o, h1, h2, _⟩ := (show ObjOk X.prog X.w H s.heap a (.tup xs) from I.hok a _ ea)
    exact PySem.W.kia_tup PySem.W.kitx_tuple I.kIn ⟨o, h1, h2⟩ ho e (fun z => nomatch z) fin
  | @dK a kvs ea =>
    cases (show u = Value.ref a from ru)
    obtain ⟨_, _, vs, _, o, es, ep, h1, h2, _⟩ := (show ObjOk X.prog X.w H s.heap a (.dK kvs) from I.hok a _ ea)
    exact PySem.W.kia_tup PySem.W.kitx_dict I.kIn ⟨o, h1, h2.1⟩ ho e (fun z => nomatch z) fin
  | @dT a kvs ea =>
    cases (show u = Value.ref a from ru)
    obtain ⟨_, _, xs, _, o, es, ep, h1, h2, _⟩ := (show ObjOk X.prog X.w H s.heap a (.dT kvs) from I.hok a _ ea)
    exact PySem.W.kia_tup PySem.W.kitx_dict I.kIn ⟨o, h1, h2.1⟩ ho e (fun z => nomatch z) fin
  | ins => cases hT
theorem se_isi2 {p q q2 q3 : Pos} {x1} {T U : Str} {Ts Us : String} (hm : X.mg "isinstance" = none) (hmT : X.mg T = none) (hmU : X.mg U = none) (he : SE X E e m) (hv : bootBuiltins T = some (.type Ts) := by decide +kernel) (hv' : bootBuiltins U = some (.type Us) := by decide +kernel)
    (hTs : Ts ∈ ["bool", "int", "str", "tuple", "list"] := by decide) (hUs : Us ∈ ["bool", "int", "str", "tuple", "list"] := by decide) (hg : Gl X "isinstance" := by rfl) (hgT : Gl X T := by rfl) (hgU : Gl X U := by rfl)
    (hn : T ≠ "__name__" := by decide) (hd : (T == ("__debug__" : Str)) = false := by decide) (hn' : U ≠ "__name__" := by decide) (hd' : (U == ("__debug__" : Str)) = false := by decide)
    (hs : starEach [e, .Tuple [.Name T q, .Name U q2] x1 q3] X.env = [(false, eval e X.env), (false, eval (.Tuple [.Name T q, .Name U q2] x1 q3) X.env)] := by rfl) (hs2 : starEach [.Tuple [.Name T q, .Name U q2] x1 q3] X.env = [(false, eval (.Tuple [.Name T q, .Name U q2] x1 q3) X.env)] := by rfl) :
    SE X E (.Call (.Name "isinstance" p) [e, .Tuple [.Name T q, .Name U q2] x1 q3] [] pos) (fun ρ => do let x ← m ρ; isiD (fun t => sub1 t Ts || sub1 t Us) x) := by
  refine PE.imp (pe_callB call_isi2 hg hm (by decide +kernel) (pa_cons he (pa_cons (pe_tup (pa_cons (pe_bltn hgT hmT hv (v := .ty Ts) rfl hn hd) (pa_cons (pe_bltn hgU hmU hv' (v := .ty Us) rfl hn' hd') pa_nil rfl) rfl)) pa_nil hs2) (by rw [hs, hs2])) (by decide) (by decide) (by rw [hs, hs2]) (by rw [hs2]; rfl)) fun σ H Q h => ?_
  obtain ⟨ι, S, ρ, rep, re, c⟩ := h
  refine ⟨ι, S, ρ, rep, re, cont_mono (cont_bind c) fun x ι1 S1 H1 e1 rep1 c1 v r => ?_⟩
  obtain ⟨hd, c1⟩ := isiD_inv c1
  refine ⟨by show 2 ≤ sizeLine; decide, fun p hp => ?_⟩
  have rep2 := rep_new (o := .tup [.ty Ts, .ty Us]) rep1 hp
  have e2 : Ext ι1 H1 ι1 (upd H1 p (.tup [.ty Ts, .ty Us])) := ext_new hp
  exact ⟨v, dTy x, p, Ts, Us, rfl, upd_same, dTy_ok rep2 (r.later rep1 e2) hd, dTy_mem x, hTs, hUs, cont_pure c1 e2 rep2 _ (.bl _)⟩
end
end S3
end
section
set_option maxRecDepth 100000
set_option maxHeartbeats 4000000
namespace S3
open PySem PySem.Spec PyProof.Rows L2
section
variable {X : Cx} {E : XD} {a b e c o tg : Expr} {m n l : TM} {pos p2 : Pos} {es : List Expr} {ms : Env0 → M (List D)}
theorem range_all {bs : List Bool} : (List.range bs.length).all (fun i => bs.getD i false) = bs.all id := by
  induction bs with
  | nil => rfl
  | cons b bs ih =>
    rw [List.length_cons, List.range_succ_eq_map, List.all_cons, List.all_map]
    simp only [List.getD_cons_zero, List.all_cons, id]
    congr 1
theorem call_allB (hc : X.calm = true) : CallR X (.builtin "all") (fun xs H Q => ∃ (p : Addr) (bs : List Bool), xs = [.ref p] ∧ SqL X.K H p (bs.map V.bl) ∧ Q (.bl (bs.all id)) H) := by
  intro pins s σ H xs us Q I r h
  obtain ⟨p, bs, rfl, hp, q⟩ := h
  obtain ⟨u, rfl, rx⟩ := vals1 r
  cases (show u = Value.ref p from rx)
  obtain ⟨its, rv, pl, hz⟩ := I.list hp
  have hl := pl.isList
  refine call_all_walk (wpAny_pyIter_list hl ?_)
  have hlt : p < s.heap.objs.size := by obtain ⟨o, ho, _⟩ := hl; exact Heap.lt_size ho
  have hlen := rv.length
  refine ⟨s.heap.objs.size, _, _, _, _, _, fun i => bs.getD i false, rfl, Walks.list (A := X.A.in1) (by show X.A.handled = none; exact I.ok.hd hc) s.heap.objs.size p (Nat.ne_of_lt hlt) its.toArray, ⟨⟨_, Heap.get?_push_size _ rfl, rfl, rfl⟩, hl.push _⟩, ?_, fun h' tk kp => ?_⟩
  · intro i v s' Q' E' hP hQ
    have hP' : its[i]? = some v := by simpa using hP
    have hi : i < its.length := (List.getElem?_eq_some_iff.mp hP').1
    have hib : i < bs.length := by rw [List.length_map] at hlen; omega
    have : (bs.map V.bl)[i]? = some (.bl bs[i]) := by rw [List.getElem?_map, List.getElem?_eq_getElem hib]; rfl
    obtain ⟨u, hu, ru⟩ := rv.get this
    rw [hP'] at hu
    cases hu
    cases (show v = Value.bool bs[i] from ru)
    have : bs.getD i false = bs[i] := by simp [List.getD, hib]
    dsimp only at hQ
    rw [this] at hQ
    exact wpAny_truthy_bool hQ
  · have e1 : its.toArray.size = bs.length := by rw [List.size_toArray, ← hlen, List.length_map]
    rw [e1, range_all]
    refine ⟨.bl _, H, I.kept (fun b o e => kp b o ?_ (Heap.get?_push_of_some _ e)), rfl, q⟩
    have : b ≠ s.heap.objs.size := Nat.ne_of_lt (Heap.lt_size e)
    simpa using this
def boolsOf : List D → Option (List Bool)
  | [] => some []
  | .bl i :: r => (boolsOf r).map (i :: ·)
  | _ => none
theorem boolsOf_rel {K : PySem.W.Frag} {ι : List Addr} {H : Hp} : ∀ {ds : List D} {vs : List V} {ns : List Bool}, RelDs K ι H ds vs → boolsOf ds = some ns → vs = ns.map V.bl
  | [], vs, ns, h, e => by cases e; rw [h.nil_inv]; rfl
  | .bl i :: ds, vs, ns, h, e => by
    obtain ⟨v, ws, rfl, r1, r2⟩ := h.cons_inv
    cases q : boolsOf ds with
    | none => simp [boolsOf, q] at e
    | some ks =>
      simp [boolsOf, q] at e
      subst e
      rw [r1.bl_inv, boolsOf_rel r2 q]; rfl
  | .non :: _, _, _, _, e => by cases e
  | .int _ :: _, _, _, _, e => by cases e
  | .str _ :: _, _, _, _, e => by cases e
  | .tup _ :: _, _, _, _, e => by cases e
  | .lst _ :: _, _, _, _, e => by cases e
  | .ro _ :: _, _, _, _, e => by cases e
  | .emp :: _, _, _, _, e => by cases e
def allD : List D → M D
  | [.lst k] => do
    let xs ← getL k
    match boolsOf xs with
    | some bs => pure (.bl (bs.all id))
    | none => M.fail
  | _ => M.fail
theorem calld_all : CallD X.K E allD (fun xs H Q => ∃ (p : Addr) (bs : List Bool), xs = [.ref p] ∧ SqL X.K H p (bs.map V.bl) ∧ Q (.bl (bs.all id)) H) := by
  intro ι S H ds vs Q rep r c
  unfold allD at c
  split at c
  · next k =>
    obtain ⟨v, ws, rfl, r1, r2⟩ := r.cons_inv
    cases r2.nil_inv
    obtain ⟨p, rfl, h1⟩ := r1.lst_inv
    obtain ⟨es, us, _, hv, rv, c4⟩ := cont_getL c rep h1
    cases q : boolsOf es with
    | none => rw [q] at c4; exact (cont_fail c4).elim
    | some bs =>
      rw [q] at c4
      refine ⟨p, bs, rfl, .of ?_, cont_pure c4 .refl rep _ (.bl _)⟩
      rw [← boolsOf_rel rv q]; exact hv
  · exact (cont_fail c).elim
theorem se_all {p : Pos} (hc : X.calm = true) (hm : X.mg "all" = none) (ha : SE X E e m) (hg : Gl X "all" := by rfl) (hs : starEach [e] X.env = [(false, eval e X.env)] := by rfl) : SE X E (.Call (.Name "all" p) [e] [] pos) (fun ρ => do let ds ← (do let x ← m ρ; let xs ← pure []; pure (x :: xs)); allD ds) :=
  se_callB (call_allB hc) calld_all hg hm (by decide +kernel) (sa_cons ha sa_nil hs) (by decide) (by decide) hs rfl
def appendD : D → List D → M D
  | .lst k, [d] => do let xs ← getL k; setL k (xs ++ [d])
  | _, _ => M.fail
def extendD : D → List D → M D
  | .lst k, [.lst j] => do let xs ← getL k; let ys ← getL j; setL k (xs ++ ys)
  | _, _ => M.fail
def popAtD : D → List D → M D
  | .lst k, [.int i] => do
    let xs ← getL k
    if 0 ≤ i ∧ i < xs.length then
      match xs[i.toNat]? with
      | some y => do let _ ← setL k (xs.eraseIdx i.toNat); pure y
      | none => M.fail
    else M.fail
  | _, _ => M.fail
theorem tyV_list {K : PySem.W.Frag} {H : Hp} {p : Addr} {xs : List V} (h : H p = some (.lst xs)) : tyV K "list" (.ref p) H := .inl ⟨rfl, xs, .of h⟩
def asL : D → M Unit
  | .lst _ => pure ()
  | _ => M.fail
theorem se_meth {name : Str} {id : String} {f : D → List D → M D} {r : V → List V → Hp → VK → Prop} {apos : Pos} (slot : Slot "list" name id) (hty : typeOf (.builtin id) = pure (.type "method_descriptor")) (hm : MtR X id r)
    (hf : MtD X.K E f r) (ho : SE X E o m) (ha : SA X E (e :: es) ms)
    (hbase : attributeBase o name X.env (eval o X.env) = eval o X.env := by rfl)
    (hfew : ((backTo pos (starEach (e :: es) X.env)).all (fun x => !x.1) && (backToKw pos (keywordEach [] X.env)).all (fun x => x.1.isSome)
      && decide ((e :: es).length + ([] : List Keyword).length + (if ([] : List Keyword).isEmpty then 0 else 1) < 30)) = true := by rfl)
    (hline : (apos.endLine == pos.line) = true := by rfl) (hs : starEach (e :: es) X.env = (false, eval e X.env) :: starEach es X.env := by rfl) (hplain : (backTo pos (starEach es X.env)).any (·.1) = false := by rfl) :
    SE X E (.Call (.Attribute o name apos) (e :: es) [] pos) (fun ρ => do let x ← m ρ; asL x; let ds ← ms ρ; f x ds) := by
  refine PE.imp (pe_bm PySem.F.plainAttrs_list slot hty hm ho ha hbase hfew hline hs hplain) fun σ H Q h => ?_
  obtain ⟨ι, S, ρ, rep, re, c⟩ := h
  refine ⟨ι, S, ρ, rep, re, cont_mono (cont_bind c) fun x ι1 S1 H1 e1 rep1 c1 v r1 => ?_⟩
  cases x with
  | lst k =>
    obtain ⟨p, rfl, h1⟩ := r1.lst_inv
    obtain ⟨vs, hv⟩ := rep1.isL (List.mem_of_getElem? h1)
    have c2 := cont_pure (cont_bind c1) .refl rep1
    exact ⟨tyV_list hv, ι1, S1, ρ, rep1, re.later rep e1, cont_mono (cont_bind c2) fun ds ι2 S2 H2 e2 rep2 c3 vs r2 => hf ι2 S2 H2 (.lst k) ds (.ref p) vs Q rep2 (r1.later rep1 e2) r2 c3⟩
  | _ => exact (cont_fail (cont_bind c1)).elim
theorem mtd_append : MtD X.K E appendD rAppend := by
  intro ι S H d ds v vs Q rep r rs c
  unfold appendD at c
  split at c
  · next k d =>
    obtain ⟨p, rfl, h1⟩ := r.lst_inv
    obtain ⟨w, ws, rfl, r1, r2⟩ := rs.cons_inv
    cases r2.nil_inv
    obtain ⟨es, us, _, hv, rv, c4⟩ := cont_getL c rep h1
    obtain ⟨hl, hq⟩ := cont_setL c4 rep h1 (rv.append (.cons r1 .nil))
    rw [List.length_append] at hl
    exact ⟨p, us, w, rfl, rfl, hv, Nat.lt_of_lt_of_le (by simp at hl; omega) lim_le, hq _ .non⟩
  · exact (cont_fail c).elim
theorem mtd_extend : MtD X.K E extendD rExtend := by
  intro ι S H d ds v vs Q rep r rs c
  unfold extendD at c
  split at c
  · next k j =>
    obtain ⟨p, rfl, h1⟩ := r.lst_inv
    obtain ⟨w, ws, rfl, r1, r2⟩ := rs.cons_inv
    cases r2.nil_inv
    obtain ⟨q, rfl, h2⟩ := r1.lst_inv
    obtain ⟨es, us, _, hv, rv, c4⟩ := cont_getL c rep h1
    obtain ⟨fs, ys, _, hy, ry, c5⟩ := cont_getL c4 rep h2
    obtain ⟨hl, hq⟩ := cont_setL c5 rep h1 (rv.append ry)
    rw [List.length_append] at hl
    exact ⟨p, q, us, ys, rfl, rfl, hv, hy, Nat.le_trans hl lim_le, hq _ .non⟩
  · exact (cont_fail c).elim
theorem mtd_popAt : MtD X.K E popAtD rPopAt := by
  intro ι S H d ds v vs Q rep r rs c
  unfold popAtD at c
  split at c
  · next k i =>
    obtain ⟨p, rfl, h1⟩ := r.lst_inv
    obtain ⟨w, ws, rfl, r1, r2⟩ := rs.cons_inv
    cases r2.nil_inv
    rw [r1.int_inv]
    obtain ⟨es, us, hSk, hv, rv, c4⟩ := cont_getL c rep h1
    split at c4
    · next hb =>
      cases q : es[i.toNat]? with
      | none => rw [q] at c4; exact (cont_fail c4).elim
      | some y =>
        rw [q] at c4
        obtain ⟨yv, hy1, hy2⟩ := rv.get' q
        have hlen := rv.length
        have hE : Ext ι H ι (upd H p (.lst (us.eraseIdx i.toNat))) := ext_set (List.mem_of_getElem? h1)
        have rv' := RelDs.eraseIdx i.toNat rv
        have c5 := cont_setL (cont_bind c4) rep h1 rv'
        have hus : us.length ≤ lim + 1 := by
          have := c5.1
          rw [List.length_eraseIdx] at this
          split at this <;> omega
        refine ⟨p, us, i, i.toNat, yv, rfl, rfl, hv, by omega, by unfold lim at hus; omega, ?_, hy1, ?_⟩
        · unfold seqIndex?
          simp only [show ¬ i < 0 by omega, if_false]
          first | (rw [if_pos (by omega)]) | (rw [if_pos (by simp; omega)]) | (simp; omega)
        · exact cont_pure c5.2 .refl (rep_set rep h1 rv') _ (hy2.later rep hE)
    · exact (cont_fail c4).elim
  · exact (cont_fail c).elim
theorem se_append {apos : Pos} (ho : SE X E o m) (ha : SE X E e n)
    (hbase : attributeBase o "append" X.env (eval o X.env) = eval o X.env := by rfl)
    (hline : (apos.endLine == pos.line) = true := by rfl) (hs : starEach [e] X.env = [(false, eval e X.env)] := by rfl) :
    SE X E (.Call (.Attribute o "append" apos) [e] [] pos) (fun ρ => do let x ← m ρ; asL x; let ds ← (do let y ← n ρ; let ys ← pure []; pure (y :: ys)); appendD x ds) :=
  se_meth PySem.F.slot_list_append PySem.F.type_list_append mt_append mtd_append ho (sa_cons ha sa_nil hs) hbase (by rw [hs]; rfl) hline hs rfl
theorem se_extend {apos : Pos} (ho : SE X E o m) (ha : SE X E e n)
    (hbase : attributeBase o "extend" X.env (eval o X.env) = eval o X.env := by rfl)
    (hline : (apos.endLine == pos.line) = true := by rfl) (hs : starEach [e] X.env = [(false, eval e X.env)] := by rfl) :
    SE X E (.Call (.Attribute o "extend" apos) [e] [] pos) (fun ρ => do let x ← m ρ; asL x; let ds ← (do let y ← n ρ; let ys ← pure []; pure (y :: ys)); extendD x ds) :=
  se_meth PySem.F.slot_list_extend PySem.F.type_list_extend mt_extend mtd_extend ho (sa_cons ha sa_nil hs) hbase (by rw [hs]; rfl) hline hs rfl
theorem se_popAt {apos : Pos} (ho : SE X E o m) (ha : SE X E e n)
    (hbase : attributeBase o "pop" X.env (eval o X.env) = eval o X.env := by rfl)
    (hline : (apos.endLine == pos.line) = true := by rfl) (hs : starEach [e] X.env = [(false, eval e X.env)] := by rfl) :
    SE X E (.Call (.Attribute o "pop" apos) [e] [] pos) (fun ρ => do let x ← m ρ; asL x; let ds ← (do let y ← n ρ; let ys ← pure []; pure (y :: ys)); popAtD x ds) :=
  se_meth PySem.F.slot_list_pop PySem.F.type_list_pop mt_popAt mtd_popAt ho (sa_cons ha sa_nil hs) hbase (by rw [hs]; rfl) hline hs rfl
theorem setd_list : SetD X.K E setItemD rSetL := by
  intro ι S H d1 d2 d3 v1 v2 v3 Q rep r1 r2 r3 c
  unfold setItemD at c
  split at c
  · next k j =>
    obtain ⟨p, rfl, h1⟩ := r1.lst_inv
    obtain ⟨es, us, _, hv, rv, c4⟩ := cont_getL c rep h1
    cases q : ixN es.length j with
    | none => rw [q] at c4; exact (cont_fail c4).elim
    | some at' =>
      rw [q] at c4
      obtain ⟨hl, hq⟩ := cont_setL (cont_bind c4) rep h1 (RelDs.set r3 at' rv)
      refine ⟨p, us, j, at', rfl, r2.int_inv, hv, by rw [← rv.length]; exact q, ?_⟩
      exact cont_pure hq .refl (rep_set rep h1 (RelDs.set r3 at' rv))
  · exact (cont_fail c).elim
theorem sg_item {i : Expr} (ho : SE X E o m) (hi : SE X E i n) (ha : ∀ v, assign (.Subscript o i pos) X.env v = (do
      let ov ← holding [v] (eval o X.env)
      let iv ← holding [v, ov] (eval i X.env)
      standAt pos
      holding [v, ov, iv] (setItem ov iv v)
      release [v, ov, iv] []) := by intro _; rfl) : SG X E (.Subscript o i pos) (fun d ρ => do let x ← m ρ; let y ← n ρ; setItemD x y d; pure ρ) := by
  refine PG.imp (pg_sub ho hi set_list ha) fun v σ H Q h => ?_
  obtain ⟨ι, S, ρ, d, rep, re, r, c⟩ := h
  refine ⟨ι, S, ρ, rep, re, cont_mono (cont_bind c) fun x ι1 S1 H1 e1 rep1 c1 v1 r1 => ?_⟩
  refine ⟨ι1, S1, ρ, rep1, re.later rep e1, cont_mono (cont_bind c1) fun y ι2 S2 H2 e2 rep2 c2 v2 r2 => ?_⟩
  have re2 := (re.later rep e1).later rep1 e2
  refine setd_list (E := E) ι2 S2 H2 x y d v1 v2 v _ rep2 (r1.later rep1 e2) r2 ((r.later rep e1).later rep1 e2) (cont_mono (cont_bind c2) fun _ ι3 S3 H3 e3 rep3 c3 => ?_)
  exact cont_pure c3 .refl rep3 σ (re2.later rep2 e3)
def rangeL (lo : Int) (n : Nat) : List D := (List.range n).map fun i => .int (lo + (i : Nat))
def rangeI : List D → M Iter
  | [.int j] => if -(2 ^ 62) ≤ j ∧ j < 2 ^ 62 then pure ⟨rangeL 0 j.toNat, none⟩ else M.fail
  | _ => M.fail
def rangeI2 : List D → M Iter
  | [.int i, .int j] => if -(2 ^ 62) ≤ i ∧ i < 2 ^ 62 ∧ -(2 ^ 62) ≤ j ∧ j < 2 ^ 62 then pure ⟨rangeL i (j - i).toNat, none⟩ else M.fail
  | _ => M.fail
theorem iterOk_range {K : PySem.W.Frag} {lo : Int} {n : Nat} {ι : List Addr} {H : Hp} : IterOk K ⟨rangeL lo n, none⟩ (Itr lo n) ι H := by
  intro ι2 H2 S2 e rep ok i
  refine ⟨fun d hd => ?_, fun h => ?_⟩
  · have hd' : ((List.range n)[i]?).map (fun i : Nat => D.int (lo + (i : Nat))) = some d := by
      have : (rangeL lo n)[i]? = some d := hd
      unfold rangeL at this
      rw [List.getElem?_map] at this; exact this
    have hi : i < n := by
      by_cases h : i < n
      · exact h
      · rw [List.getElem?_eq_none (by simp; omega)] at hd'; cases hd'
    rw [List.getElem?_range hi] at hd'
    cases hd'
    exact ⟨hi, fun x H3 hy => by obtain ⟨rfl, rfl⟩ := hy; exact ⟨.refl, rep, .int _⟩⟩
  · have h' : (rangeL lo n).length ≤ i := h
    unfold rangeL at h'
    rw [List.length_map, List.length_range] at h'
    exact h'
theorem si_range1 {p : Pos} (hm : X.mg "range" = none) (ha : SE X E a m) (hg : Gl X "range" := by rfl) (hs : starEach [a] X.env = [(false, eval a X.env)] := by rfl) :
    SI X E tg (.Call (.Name "range" p) [a] [] pos) (fun ρ => do let ds ← (do let x ← m ρ; let xs ← pure []; pure (x :: xs)); rangeI ds) := by
  intro pins s σ H R I h
  refine pi_range1 hg hm (sa_cons ha sa_nil hs) hs pins s σ H R I ?_
  obtain ⟨ι, S, ρ, rep, re, c⟩ := h
  refine ⟨ι, S, ρ, rep, re, cont_mono (cont_bind c) fun ds ι1 S1 H1 e1 rep1 c1 vs r => ?_⟩
  unfold rangeI at c1
  split at c1
  · next j =>
    obtain ⟨w, ws, rfl, r1, r2⟩ := r.cons_inv
    cases r2.nil_inv
    split at c1
    · next hb => rw [r1.int_inv]; exact ⟨j, rfl, hb.1, hb.2, cont_pure c1 .refl rep1 _ iterOk_range⟩
    · exact (cont_fail c1).elim
  · exact (cont_fail c1).elim
theorem si_range2 {p : Pos} (hm : X.mg "range" = none) (ha : SE X E a m) (hb : SE X E b n) (hg : Gl X "range" := by rfl) (hs : starEach [a, b] X.env = [(false, eval a X.env), (false, eval b X.env)] := by rfl) (hs2 : starEach [b] X.env = [(false, eval b X.env)] := by rfl) :
    SI X E tg (.Call (.Name "range" p) [a, b] [] pos) (fun ρ => do let ds ← (do let x ← m ρ; let xs ← (do let y ← n ρ; let ys ← pure []; pure (y :: ys)); pure (x :: xs)); rangeI2 ds) := by
  intro pins s σ H R I h
  refine pi_range2 hg hm (sa_cons ha (sa_cons hb sa_nil hs2) (by rw [hs, hs2])) hs hs2 pins s σ H R I ?_
  obtain ⟨ι, S, ρ, rep, re, c⟩ := h
  refine ⟨ι, S, ρ, rep, re, cont_mono (cont_bind c) fun ds ι1 S1 H1 e1 rep1 c1 vs r => ?_⟩
  unfold rangeI2 at c1
  split at c1
  · next i j =>
    obtain ⟨w, ws, rfl, r1, r2⟩ := r.cons_inv
    obtain ⟨w', ws', rfl, r3, r4⟩ := r2.cons_inv
    cases r4.nil_inv
    split at c1
    · next hb => rw [r1.int_inv, r3.int_inv]; exact ⟨i, j, rfl, hb, cont_pure c1 .refl rep1 _ iterOk_range⟩
    · exact (cont_fail c1).elim
  · exact (cont_fail c1).elim
def seqI : D → M Iter
  | .lst k => do let xs ← getL k; pure ⟨xs, some k⟩
  | .tup ds => pure ⟨ds, none⟩
  | .ro ds => pure ⟨ds, none⟩
  | _ => M.fail
theorem iterOk_list {K : PySem.W.Frag} {k : Nat} {a : Addr} {xs : List D} {ι : List Addr} {H : Hp} (hk : ι[k]? = some a) : IterOk K ⟨xs, some k⟩ (Itl K a) ι H := by
  intro ι2 H2 S2 e rep ok i
  obtain ⟨vs, hv, rv⟩ := rep.get k a xs (e.at hk) ok
  refine ⟨fun d hd => ?_, fun h => ⟨vs, .of hv, by rw [← rv.length]; exact h⟩⟩
  obtain ⟨v, h1, h2⟩ := rv.get' hd
  refine ⟨⟨vs, v, .of hv, h1⟩, fun x H3 hy => ?_⟩
  obtain ⟨rfl, hy⟩ := hy
  have := hy vs (.of hv)
  rw [h1] at this; cases this
  exact ⟨.refl, rep, h2⟩
theorem iterOk_tup {K : PySem.W.Frag} {a : Addr} {ds : List D} {vs : List V} {ι : List Addr} {S : Store} {H : Hp} (rep : Rep K ι H S) (ha : H a = some (.tup vs)) (r : RelDs K ι H ds vs) : IterOk K ⟨ds, none⟩ (Itt K a) ι H := by
  intro ι2 H2 S2 e rep2 ok i
  have ha2 := (e.oth a _ ha (rep.notIn ha (by intro _ z; cases z))).1
  have r2 := r.later rep e
  refine ⟨fun d hd => ?_, fun h => ⟨vs, .of ha2, by rw [← r.length]; exact h⟩⟩
  obtain ⟨v, h1, h2⟩ := r2.get' hd
  refine ⟨⟨vs, v, .of ha2, h1⟩, fun x H3 hy => ?_⟩
  obtain ⟨rfl, hy⟩ := hy
  have := hy vs (.of ha2)
  rw [h1] at this; cases this
  exact ⟨.refl, rep2, h2⟩
theorem iterOk_ro {K : PySem.W.Frag} {a : Addr} {ds : List D} {vs : List V} {ι : List Addr} {S : Store} {H : Hp} (rep : Rep K ι H S) (ha : Ron K H a vs) (r : RelDs K ι H ds vs) : IterOk K ⟨ds, none⟩ (Itl K a) ι H := by
  intro ι2 H2 S2 e rep2 ok i
  have ha2 : Ron K H2 a vs := ha.imp (fun ⟨o, h⟩ => ⟨o, (e.oth a _ h (rep.notIn h (by intro _ z; cases z))).1⟩) fun z => z
  have r2 := r.later rep e
  have sq : SqL K H2 a vs := ha2.sq
  refine ⟨fun d hd => ?_, fun h => ⟨vs, sq, by rw [← r.length]; exact h⟩⟩
  obtain ⟨v, h1, h2⟩ := r2.get' hd
  refine ⟨⟨vs, v, sq, h1⟩, fun x H3 hy => ?_⟩
  obtain ⟨rfl, hy⟩ := hy
  have := hy vs sq
  rw [h1] at this; cases this
  exact ⟨.refl, rep2, h2⟩
theorem si_seq (he : SE X E e m) : SI X E tg e (fun ρ => do let x ← m ρ; seqI x) := by
  intro pins s σ H R I h
  obtain ⟨ι, S, ρ, rep, re, c⟩ := h
  obtain ⟨r, S', er, k⟩ := id (cont_bind c)
  cases r with
  | ex x =>
    refine pi_list he pins s σ H R I ⟨ι, S, ρ, rep, re, .ex x, S', er, k⟩
  | ok d =>
    cases d with
    | tup ds =>
      refine pi_tup he pins s σ H R I ⟨ι, S, ρ, rep, re, .ok (.tup ds), S', er, fun ι1 H1 e1 rep1 v r1 => ?_⟩
      obtain ⟨p, vs, rfl, h1, h2⟩ := r1.tup_inv
      exact ⟨p, rfl, ⟨vs, .of h1⟩, cont_pure (k ι1 H1 e1 rep1) .refl rep1 _ (iterOk_tup rep1 h1 h2)⟩
    | lst j =>
      refine pi_list he pins s σ H R I ⟨ι, S, ρ, rep, re, .ok (.lst j), S', er, fun ι1 H1 e1 rep1 v r1 => ?_⟩
      obtain ⟨p, rfl, h1⟩ := r1.lst_inv
      obtain ⟨es, us, _, hv, rv, c4⟩ := cont_getL (k ι1 H1 e1 rep1) rep1 h1
      exact ⟨p, rfl, ⟨us, .of hv⟩, cont_pure c4 .refl rep1 _ (iterOk_list h1)⟩
    | ro ds =>
      refine pi_list he pins s σ H R I ⟨ι, S, ρ, rep, re, .ok (.ro ds), S', er, fun ι1 H1 e1 rep1 v r1 => ?_⟩
      obtain ⟨p, vs, rfl, h1, h2⟩ := r1.ro_inv
      exact ⟨p, rfl, ⟨vs, h1.sq⟩, cont_pure (k ι1 H1 e1 rep1) .refl rep1 _ (iterOk_ro rep1 h1 h2)⟩
    | _ => exact pi_list he pins s σ H R I ⟨ι, S, ρ, rep, re, .ok _, S', er, fun ι1 H1 e1 rep1 v r1 => (cont_fail (k ι1 H1 e1 rep1)).elim⟩
theorem call_range1 : CallR X (.type "range") (fun xs H Q => ∃ j, xs = [.int j] ∧ ∀ p, H p = none → Q (.ref p) (upd H p (.rng 0 j))) := by
  intro pins s σ H xs us Q I r h
  obtain ⟨j, rfl, q⟩ := h
  obtain ⟨u, rfl, rx⟩ := vals1 r
  obtain ⟨t, rfl⟩ := (show ∃ t, u = Value.int j t from rx)
  refine call_range_1 ⟨.ref s.heap.objs.size, _, I.laid (o := .rng 0 j) (fun b o e => Heap.get?_push_of_some _ e) (Nat.le_refl _) ⟨_, _, _, Heap.get?_push_size _ rfl⟩, rfl, q _ (I.hok.fresh (Nat.le_refl _))⟩
theorem call_list_rng (hc : X.calm = true) : CallR X (.type "list") (fun xs H Q => ∃ (p : Addr) (j : Int), xs = [.ref p] ∧ H p = some (.rng 0 j) ∧ -(2 ^ 62) ≤ j ∧ j ≤ lim ∧ ∀ l, H l = none → Q (.ref l) (upd H l (.lst ((List.range j.toNat).map fun i : Nat => V.int (i : Nat))))) := by
  intro pins s σ H xs us Q I r h
  obtain ⟨p, j, rfl, hp, h1, h2, q⟩ := h
  obtain ⟨u, rfl, rx⟩ := vals1 r
  cases (show u = Value.ref p from rx)
  obtain ⟨t, u, v, hr⟩ := (show ObjOk X.prog X.w H s.heap p (.rng 0 j) from I.hok p _ hp)
  have hsz : Builtin.Range.rangeSize 0 j 1 = (j.toNat : Int) := by rw [rangeSize_one]; split <;> omega
  have hlim : j.toNat ≤ lim := by omega
  refine call_list_range (I.ok.hd hc) hr (small_one (by omega) (by omega) h1 (by unfold lim at h2; omega)) hsz (by unfold lim at hlim; omega) fun h' tk acc c' kp ho hit => ?_
  refine ⟨.ref s.heap.objs.size, _, I.laid (t' := tk) kp (Nat.le_refl _) (o := .lst ((List.range j.toNat).map fun i : Nat => V.int (i : Nat))) ?_, rfl, q _ (I.hok.fresh (Nat.le_refl _))⟩
  refine ⟨by rw [List.length_map, List.length_range]; exact Nat.le_trans hlim lim_le, acc.toList, c', ?_, by simpa using ho⟩
  obtain ⟨hs, hi⟩ := hit
  have gen : ∀ (l : List Value) (f : Nat → Int) , (∀ i v, l[i]? = some v → ∃ t, v = Value.int (f i) t) → Vals ((List.range l.length).map fun i : Nat => V.int (f i)) l := by
    intro l
    induction l with
    | nil => intro f _; exact .nil
    | cons x l ih =>
      intro f hf
      rw [List.length_cons, List.range_succ_eq_map, List.map_cons, List.map_map]
      obtain ⟨t, ht⟩ := hf 0 x rfl
      refine .cons ⟨t, ht⟩ ?_
      exact ih (fun i => f (i + 1)) fun i v hv => hf (i + 1) v (by simpa using hv)
  have := gen acc.toList (fun i => (i : Int)) fun i v hv => by
    obtain ⟨t, ht⟩ := hi i v (by simpa using hv)
    exact ⟨t, by rw [ht]; congr 1; omega⟩
  rw [Array.length_toList, hs] at this
  exact this
def listRangeD : List D → M D
  | [.int j] => if -(2 ^ 62) ≤ j ∧ j ≤ lim then newL (rangeL 0 j.toNat) else M.fail
  | _ => M.fail
theorem rangeL_rel {K : PySem.W.Frag} {ι : List Addr} {H : Hp} : ∀ (l : List Nat), RelDs K ι H (l.map fun i : Nat => D.int (0 + (i : Nat))) (l.map fun i : Nat => V.int (i : Nat))
  | [] => .nil
  | x :: l => .cons (by show RelD K ι H (D.int (0 + (x : Int))) (V.int (x : Int)); rw [Int.zero_add]; exact .int _) (rangeL_rel l)
theorem se_listRange {p q : Pos} {pos2 : Pos} (hc : X.calm = true) (hm : X.mg "list" = none) (hm2 : X.mg "range" = none) (ha : SE X E a m) (hg : Gl X "list" := by rfl) (hg2 : Gl X "range" := by rfl) (hs : starEach [a] X.env = [(false, eval a X.env)] := by rfl)
    (hs2 : starEach [.Call (.Name "range" q) [a] [] pos2] X.env = [(false, eval (.Call (.Name "range" q) [a] [] pos2) X.env)] := by rfl) :
    SE X E (.Call (.Name "list" p) [.Call (.Name "range" q) [a] [] pos2] [] pos) (fun ρ => do let ds ← (do let x ← m ρ; let xs ← pure []; pure (x :: xs)); listRangeD ds) := by
  refine PE.imp (pe_callTy (call_list_rng hc) hg hm (by decide +kernel) (pa_cons (pe_callTy call_range1 hg2 hm2 (by decide +kernel) (sa_cons ha sa_nil hs) (by decide) (by decide) hs rfl) pa_nil hs2) (by decide) (by decide) hs2 rfl) fun σ H Q h => ?_
  obtain ⟨ι, S, ρ, rep, re, c⟩ := h
  refine ⟨ι, S, ρ, rep, re, cont_mono (cont_bind c) fun ds ι1 S1 H1 e1 rep1 c1 vs r => ?_⟩
  unfold listRangeD at c1
  split at c1
  · next j =>
    obtain ⟨w, ws, rfl, r1, r2⟩ := r.cons_inv
    cases r2.nil_inv
    split at c1
    · next hb =>
      rw [r1.int_inv]
      refine ⟨j, rfl, fun p hp => ?_⟩
      have rep2 := rep_new (o := .rng 0 j) rep1 hp
      refine ⟨p, j, rfl, upd_same, hb.1, hb.2, ?_⟩
      have c2 := cont_later c1 (ext_new (o := .rng 0 j) hp)
      exact (cont_newL' c2 rep2 (rangeL_rel (List.range j.toNat))).2
    · exact (cont_fail c1).elim
  · exact (cont_fail c1).elim
end
end S3
end
section
set_option maxRecDepth 100000
set_option maxHeartbeats 4000000
namespace S3
open PySem PySem.Spec PyProof.Rows L2
section
variable {X : Cx} {E : XD} {a b c d e : Expr} {m n l k : TM} {pos p2 : Pos}
theorem se_emp : SE X E (.Dict [] [] pos) (fun _ => pure .emp) := by
  intro pins s σ H Q I h
  obtain ⟨ι, S, ρ, rep, re, cc⟩ := h
  have big : sysModules < s.heap.objs.size := Nat.lt_trans (by decide) (I.mod.glob.keeps I.bk).lt
  have hf : H s.heap.objs.size = none := I.hok.fresh (Nat.le_refl _)
  have ob : ObjOk X.prog X.w (upd H s.heap.objs.size (.dK [])) (s.heap.push { cls := .type "dict", data := .dict #[] }) s.heap.objs.size (.dK []) := ⟨Nat.zero_le _, beq_eq_false_iff_ne.mpr (Ne.symm (Nat.ne_of_lt big)), [], .nil, Heap.DictOf.new s.heap⟩
  refine wpAny_Dict_empty ⟨.ref s.heap.objs.size, upd H s.heap.objs.size (.dK []), I.laid (t' := s.toks) (fun _ _ q => Heap.get?_push_of_some _ q) (Nat.le_refl _) ob, rfl, ?_⟩
  exact cont_pure cc (ext_new hf) (rep_new rep hf) _ (.emp upd_same)
def tChain3 (r1 r2 r3 : R2) (ta tb tc td : TE) : TT := fun σ H Q => ta σ H fun x H1 => tb σ H1 fun y H2 => r1 x y H2 fun z H3 => ∃ i, z = .bl i ∧
  (if i = true then tc σ H3 fun w H4 => r2 y w H4 fun z2 H5 => ∃ j, z2 = .bl j ∧ (if j = true then td σ H5 fun v H6 => r3 w v H6 fun z3 H7 => ∃ g, z3 = .bl g ∧ Q g H7 else Q false H5) else Q false H3)
theorem pt_chain3 {o1 o2 o3 : CmpOp} {r1 r2 r3 : R2} {ta tb tc td : TE} (h1 : OpR X (compareOp o1) r1) (h2 : OpR X (compareOp o2) r2) (h3 : OpR X (compareOp o3) r3) (ha : PE X a ta) (hb : PE X b tb) (hc : PE X c tc) (hd : PE X d td)
    (hm : lastMarks [o1, o2, o3] [b, c, d] = false := by with_unfolding_all rfl) : PT X (.Compare a [o1, o2, o3] [b, c, d] pos) (tChain3 r1 r2 r3 ta tb tc td) := by
  intro pins s σ H Q I h
  refine isTrue_chain (thn (ha pins s σ H _ I h) fun va s1 ⟨x, H1, I1, q1, w1⟩ => test_link (thn (hb pins s1 σ H1 _ I1 w1) fun vb s2 ⟨y, H2, I2, q2, w2⟩ => thn (h1 pins s2 σ H2 x y va vb _ I2 q1 q2 w2) fun _ s3 ⟨z, H3, I3, q3, i, e3, w3⟩ => ?_)) hm
  subst e3
  cases q3
  refine wpAny_truthy_bool ?_
  cases i with
  | false => exact ite_ff ⟨H3, I3, w3⟩
  | true =>
    refine ite_tt (test_link (thn (hc pins s3 σ H3 _ I3 w3) fun vc s4 ⟨u, H4, I4, q4, w4⟩ => thn (h2 pins s4 σ H4 y u vb vc _ I4 q2 q4 w4) fun _ s5 ⟨z5, H5, I5, q5, j, e5, w5⟩ => ?_))
    subst e5
    cases q5
    refine wpAny_truthy_bool ?_
    cases j with
    | false => exact ite_ff ⟨H5, I5, w5⟩
    | true =>
      refine ite_tt (test_last (thn (hd pins s5 σ H5 _ I5 w5) fun vd s6 ⟨v, H6, I6, q6, w6⟩ => thn (h3 pins s6 σ H6 u v vc vd _ I6 q4 q6 w6) fun _ s7 ⟨z7, H7, I7, q7, g, e7, w7⟩ => ?_))
      subst e7
      cases q7
      exact wpAny_truthy_bool ⟨H7, I7, w7⟩
theorem sb_chain3 {o1 o2 o3 : CmpOp} {f g h : D → D → M D} {r1 r2 r3 : R2} (h1 : OpR X (compareOp o1) r1) (h2 : OpR X (compareOp o2) r2) (h3 : OpR X (compareOp o3) r3) (hf : OpD X.K E f r1) (hg : OpD X.K E g r2) (hh : OpD X.K E h r3)
    (ha : SE X E a m) (hb : SE X E b n) (hc : SE X E c l) (hd : SE X E d k) (hm : lastMarks [o1, o2, o3] [b, c, d] = false := by with_unfolding_all rfl) :
    SB X E (.Compare a [o1, o2, o3] [b, c, d] pos) (fun ρ => do
      let x ← m ρ
      let y ← n ρ
      let z ← f x y
      let i ← asB z
      if i = true then do
        let w ← l ρ
        let z2 ← g y w
        let j ← asB z2
        if j = true then do
          let v ← k ρ
          let z3 ← h w v
          asB z3
        else pure false
      else pure false) := by
  refine PT.imp (pt_chain3 h1 h2 h3 ha hb hc hd hm) fun σ H Q q => ?_
  obtain ⟨ι, S, ρ, rep, re, cc⟩ := q
  refine ⟨ι, S, ρ, rep, re, cont_mono (cont_bind cc) fun x ι1 S1 H1 e1 rep1 c1 v1 r1 => ?_⟩
  have re1 := re.later rep e1
  refine ⟨ι1, S1, ρ, rep1, re1, cont_mono (cont_bind c1) fun y ι2 S2 H2 e2 rep2 c2 v2 r2 => ?_⟩
  have re2 := re1.later rep1 e2
  refine hf ι2 S2 H2 x y v1 v2 _ rep2 (r1.later rep1 e2) r2 (cont_mono (cont_bind c2) fun z ι3 S3 H3 e3 rep3 c3 v3 r3 => ?_)
  have re3 := re2.later rep2 e3
  obtain ⟨i, rfl, rfl, c4⟩ := asB_inv rep3 r3 c3
  refine ⟨i, rfl, ?_⟩
  cases i with
  | false => exact cont_pure c4 .refl rep3
  | true =>
    refine ⟨ι3, S3, ρ, rep3, re3, cont_mono (cont_bind c4) fun w ι4 S4 H4 e4 rep4 c5 v4 r4 => ?_⟩
    have re4 := re3.later rep3 e4
    refine hg ι4 S4 H4 y w v2 v4 _ rep4 ((r2.later rep2 e3).later rep3 e4) r4 (cont_mono (cont_bind c5) fun z2 ι5 S5 H5 e5 rep5 c6 v5 r5 => ?_)
    have re5 := re4.later rep4 e5
    obtain ⟨j, rfl, rfl, c7⟩ := asB_inv rep5 r5 c6
    refine ⟨j, rfl, ?_⟩
    cases j with
    | false => exact cont_pure c7 .refl rep5
    | true =>
      refine ⟨ι5, S5, ρ, rep5, re5, cont_mono (cont_bind c7) fun v ι6 S6 H6 e6 rep6 c8 v6 r6 => ?_⟩
      refine hh ι6 S6 H6 w v v4 v6 _ rep6 ((r4.later rep4 e5).later rep5 e6) r6 (cont_mono (cont_bind c8) fun z3 ι7 S7 H7 e7 rep7 c9 v7 r7 => ?_)
      obtain ⟨t, rfl, rfl, c10⟩ := asB_inv' rep7 r7 c9
      exact ⟨t, rfl, c10⟩
end
end S3
end
section
set_option maxRecDepth 100000
set_option maxHeartbeats 4000000
namespace S3
open PySem PySem.Spec PyProof.Rows L2
theorem rev_places (n : Nat) : Builtin.Slice.slicePlaces ((n : Int) - 1) (-1) (-1) = n := by
  unfold Builtin.Slice.slicePlaces
  rw [if_neg (by omega)]
  by_cases h : ((n : Int) - 1) > -1
  · rw [if_pos h]
    have : ((n : Int) - 1 - -1 - 1) / (- -1) + 1 = n := by
      rw [show (- -1 : Int) = 1 by omega, Int.ediv_one]; omega
    rw [this]; omega
  · rw [if_neg h]; omega
theorem rev_pick (xs : Array Value) : ((List.range xs.size).filterMap fun (k : Nat) => xs[(((xs.size : Int) - 1) + (k : Int) * (-1)).toNat]?) = xs.toList.reverse := by
  have h1 : ∀ k ∈ List.range xs.size, xs[(((xs.size : Int) - 1) + (k : Int) * (-1)).toNat]? = xs.toList.reverse[k]? := fun k hk => by
    have hk' : k < xs.size := List.mem_range.mp hk
    rw [List.getElem?_reverse (by simpa using hk'), Array.getElem?_toList]
    congr 1
    simp
    omega
  have h2 : ∀ l : List Nat, (∀ k ∈ l, xs[(((xs.size : Int) - 1) + (k : Int) * (-1)).toNat]? = xs.toList.reverse[k]?) → (l.filterMap fun (k : Nat) => xs[(((xs.size : Int) - 1) + (k : Int) * (-1)).toNat]?) = l.filterMap fun k => xs.toList.reverse[k]? := by
    intro l
    induction l with
    | nil => intro _; rfl
    | cons k l ih =>
      intro hk
      rw [List.filterMap_cons, List.filterMap_cons, hk k List.mem_cons_self, ih fun k' h' => hk k' (List.mem_cons_of_mem _ h')]
  rw [h2 _ h1]
  have := List.filterMap_getElem?_range_length xs.toList.reverse
  simpa using this
section
variable {X : Cx} {E : XD} {e : Expr} {m : TM} {te : TE} {pos p1 p2 p3 : Pos} {j : Nat}
theorem pe_rev (he : PE X e te) : PE X (.Subscript e (.Slice none none (some (.UnaryOp .USub (.Constant (.int 1) j p1) p3)) p2) pos)
    (fun σ H Q => te σ H fun x H1 => ∃ a xs, x = .ref a ∧ SqT X.K H1 a xs ∧ ∀ p, H1 p = none → Q (.ref p) (upd H1 p (.tup xs.reverse))) := by
  intro pins s σ H Q I h
  refine Subscript_ (thn (he pins s σ H _ I h) fun v s1 ⟨x, H1, I1, r1, a, xs, ex, hx, q⟩ => ?_)
  subst ex
  cases r1
  refine wpAny_Slice ?_
  rw [evalPart_none]
  refine wpAny_pure (wpAny_pure (thn (po_some (pe_un un_neg (pe_int (X := X) (i := 1) (j := j) (pos := p1))) pins s1 σ H1 (fun o H2 => o = some (-1) ∧ H2 = H1) I1 ⟨1, rfl, -1, rfl, rfl, rfl⟩) fun vs s2 ⟨o, H2, I2, pt, eo, eH⟩ => ?_))
  subst eo eH
  have I3 : Inv X pins σ H2 { s2 with heap := s2.heap.push { cls := .type "slice", data := .fields #[.none, .none, vs] } } := I2.kept (t' := s2.toks) fun b ob q => Heap.get?_push_of_some _ q
  generalize hs3 : ({ s2 with heap := s2.heap.push { cls := .type "slice", data := .fields #[.none, .none, vs] } } : Shared) = s3 at I3
  have hos : s3.heap.get? s2.heap.objs.size = some { cls := .type "slice", data := .fields #[.none, .none, vs] } := by rw [← hs3]; exact Heap.get?_push_size _ rfl
  obtain ⟨its, r, ht, hz⟩ := I3.tuple hx
  have hlen : its.toArray.size = xs.length := by rw [List.size_toArray]; exact r.length.symm
  have hTs : s3.TypeIs (.ref s2.heap.objs.size) "slice" := ⟨_, hos, rfl⟩
  have fin : EP X pins σ Q (.ref s3.heap.objs.size) { s3 with heap := s3.heap.push { cls := .type "tuple", data := .seq its.reverse.toArray } } :=
    ⟨.ref s3.heap.objs.size, _, I3.laid (t' := s3.toks) (o := .tup xs.reverse) (fun b ob q => Heap.get?_push_of_some _ q) (Nat.le_refl _) ⟨by rw [List.length_reverse]; exact hz, _, r.reverse, IsTup.new _ _⟩, rfl, q _ (I3.hok.fresh (Nat.le_refl _))⟩
  refine tail_any (ops := [.ref a, .ref s2.heap.objs.size]) ht.typeIs PyProof.Rows.slot_tuple_getitem.lookup ?_ (by with_unfolding_all rfl)
  unfold getItem
  try with_reducible refine wpAny_holding ?_
  first | refine wpAny_bind (wpAny_pure ?_) | skip
  refine wpAny_bind (wpAny_sequenceKey ht.typeIs (by decide) ?_)
  refine wpAny_bind (wpAny_callSpecial?_slot (name := Str.ofString "__getitem__") ht.typeIs PyProof.Rows.slot_tuple_getitem
    (wpAny_call_entry PyProof.Rows.slot_tuple_getitem ht.typeIs entry_tuple_getitem ?_ (args_tuple_getitem _ _)))
  show wpAny _ _ (Builtin.Tuple.tupleItemsOf (.ref a) >>= _) _ _ s3
  refine wpAny_bind (tupleItemsOf_ ht (wpAny_bind (wpAny_typeOf hTs ?_)))
  rw [if_pos (by decide)]
  unfold Builtin.Slice.sliceApplied Builtin.Slice.sliceFields
  refine wpAny_bind (wpAny_bind (wpAny_bind (wpAny_field hos rfl (x := .none) rfl (wpAny_bind (wpAny_field hos rfl (x := .none) rfl (wpAny_bind (wpAny_field hos rfl (x := vs) rfl (wpAny_pure ?_))))))))
  refine wpAny_bind (HT.slicePart_ pt ?_)
  show wpAny _ _ (if ((-1 : Int) == 0) = true then _ else _) _ _ s3
  rw [if_neg (by decide)]
  refine wpAny_bind (HT.slicePart_ .none (wpAny_bind (HT.slicePart_ .none (wpAny_bind (wpAny_pure ?_)))))
  show wpAny _ _ (pure (((its.toArray.size : Int) - 1), (-1 : Int), Builtin.Slice.slicePlaces ((its.toArray.size : Int) - 1) (-1) (-1))) _ _ s3
  rw [rev_places]
  refine wpAny_pure ?_
  show wpAny _ _ (if (((its.toArray.size : Int) - 1) == 0 && (-1 : Int) == 1 && its.toArray.size == its.toArray.size) = true then _ else _) _ _ s3
  rw [if_neg (by simp)]
  rw [rev_pick]
  have hsz : sizeOk (.seq its.toArray.toList.reverse.toArray) := by
    show its.toArray.toList.reverse.toArray.size ≤ sizeLine
    simp only [List.size_toArray, List.length_reverse, Array.length_toList]
    rw [← r.length]; exact hz
  have fin' : EP X pins σ Q (.ref s3.heap.objs.size) { s3 with heap := s3.heap.push { cls := .type "tuple", data := .seq its.toArray.toList.reverse.toArray } } := by simpa using fin
  first
    | exact wpAny_bind (m := Builtin.Tuple.tupleExact _) (wpAny_newObj_type (wpAny_pure ⟨_, rfl, wpAny_pure fin'⟩) hsz)
    | exact wpAny_bind (m := Builtin.Tuple.tupleExact _) (wpAny_newObj_type (wpAny_bind (wpAny_pure (wpAny_pure ⟨_, rfl, wpAny_pure fin'⟩))) hsz)
    | exact wpAny_bind (wpAny_bind (m := Builtin.Tuple.tupleExact _) (wpAny_newObj_type (wpAny_pure (wpAny_pure ⟨_, rfl, wpAny_pure fin'⟩)) hsz))
    | exact wpAny_bind (wpAny_bind (m := Builtin.Tuple.tupleExact _) (wpAny_newObj_type (wpAny_pure ⟨_, rfl, wpAny_pure fin'⟩) hsz))
def revD : D → M D
  | .tup xs => mkTup xs.reverse
  | _ => M.fail
theorem se_rev (he : SE X E e m) : SE X E (.Subscript e (.Slice none none (some (.UnaryOp .USub (.Constant (.int 1) j p1) p3)) p2) pos) (fun ρ => do let x ← m ρ; revD x) := by
  refine PE.imp (pe_rev he) fun σ H Q h => ?_
  obtain ⟨ι, S, ρ, rep, re, c⟩ := h
  refine ⟨ι, S, ρ, rep, re, cont_mono (cont_bind c) fun x ι1 S1 H1 e1 rep1 c1 v r => ?_⟩
  cases x with
  | tup ds =>
    obtain ⟨p, vs, rfl, h1, h2⟩ := r.tup_inv
    exact ⟨p, vs, rfl, .of h1, (cont_mkTup c1 rep1 h2.reverse).2⟩
  | _ => exact (cont_fail c1).elim
end
end S3
end
section
set_option maxRecDepth 100000
set_option maxHeartbeats 4000000
namespace S3
open PySem PySem.Spec PyProof.Rows L2
def insI (x : Int) : List Int → List Int
  | [] => [x]
  | y :: r => if x ≤ y then x :: y :: r else y :: insI x r
def sortI : List Int → List Int
  | [] => []
  | x :: r => insI x (sortI r)
theorem insI_perm (x : Int) : ∀ l, (insI x l).Perm (x :: l)
  | [] => .refl _
  | y :: r => by
    unfold insI
    split
    · exact .refl _
    · exact (List.Perm.cons y (insI_perm x r)).trans (List.Perm.swap x y r)
theorem sortI_perm : ∀ l, (sortI l).Perm l
  | [] => .refl _
  | x :: r => (insI_perm x _).trans (List.Perm.cons x (sortI_perm r))
theorem insI_sorted (x : Int) : ∀ {l : List Int}, l.Pairwise (· ≤ ·) → (insI x l).Pairwise (· ≤ ·)
  | [], _ => by simp [insI]
  | y :: r, h => by
    obtain ⟨h1, h2⟩ := List.pairwise_cons.mp h
    unfold insI
    split
    · next c =>
      refine List.pairwise_cons.mpr ⟨fun z hz => ?_, h⟩
      rcases List.mem_cons.mp hz with rfl | hz
      · exact c
      · exact Int.le_trans c (h1 z hz)
    · next c =>
      refine List.pairwise_cons.mpr ⟨fun z hz => ?_, insI_sorted x h2⟩
      rcases List.mem_cons.mp ((insI_perm x r).mem_iff.mp hz) with rfl | hz
      · omega
      · exact h1 z hz
theorem sortI_sorted : ∀ l, (sortI l).Pairwise (· ≤ ·)
  | [] => .nil
  | x :: r => insI_sorted x (sortI_sorted r)
section
variable {X : Cx} {E : XD} {e : Expr} {m : TM} {pos : Pos}
theorem call_sortedI : CallR X (.builtin "sorted") (fun xs H Q => ∃ (p : Addr) (ns : List Int), xs = [.ref p] ∧ SqL X.K H p (ns.map V.int) ∧ ns.length < 64 ∧ ∀ l, H l = none → Q (.ref l) (upd H l (.lst ((sortI ns).map V.int)))) := by
  intro pins s σ H xs us Q I r h
  obtain ⟨p, ns, rfl, hp, h64, q⟩ := h
  obtain ⟨u, rfl, rx⟩ := vals1 r
  cases (show u = Value.ref p from rx)
  obtain ⟨its, rv, pl, hz⟩ := I.list hp
  have hI : IntsAre its ns := intsAre_of rv
  have hlen := rv.length
  rw [List.length_map] at hlen
  refine sorted_ints pl.isList hI (by omega) fun out ns' a1 a2 a3 => ?_
  have en : ns' = sortI ns := PySem.W.lks_uniq (a2.trans (sortI_perm ns).symm) a3 (sortI_sorted ns)
  subst en
  obtain ⟨c, hc⟩ := sortedAll_at s.heap its out
  have hf : H (s.heap.objs.size + 1) = none := I.hok.fresh (Nat.le_succ _)
  refine ⟨.ref (s.heap.objs.size + 1), _, I.laid (t' := s.toks) (o := .lst ((sortI ns).map V.int)) (fun b o e => sortedAll_old e) (Nat.le_succ _) ⟨?_, out.toList, c, vals_ints a1, hc⟩, rfl, q _ hf⟩
  rw [List.length_map, (sortI_perm ns).length_eq, sizeLine_eq]; omega
def sortedI : List D → M D
  | [.lst k] => do
    let xs ← getL k
    match intsOf xs with
    | some ns => if ns.length < 64 then newL ((sortI ns).map D.int) else M.fail
    | none => M.fail
  | _ => M.fail
theorem ints_rel {K : PySem.W.Frag} {ι : List Addr} {H : Hp} : ∀ ns : List Int, RelDs K ι H (ns.map D.int) (ns.map V.int)
  | [] => .nil
  | n :: r => .cons (.int n) (ints_rel r)
end
end S3
end
section
set_option maxRecDepth 100000
set_option maxHeartbeats 4000000
namespace S3
open PySem PySem.Spec PySem.W PyProof.Rows L2
theorem katTups_of {h : Heap} : ∀ {vs : List Value}, (∀ v ∈ vs, ∃ a o us n i t, v = .ref a ∧ h.get? a = some o ∧ o.cls = .type "tuple" ∧ o.data = .seq us n ∧ us[0]? = some (Value.int i t)) →
    ∃ fs, KatTups h vs fs ∧ fs.length = vs.length ∧ ∀ f ∈ fs, ∃ i t, f = Value.int i t
  | [], _ => ⟨[], .nil, rfl, fun _ z => nomatch z⟩
  | v :: vs, hv => by
    obtain ⟨a, o, us, n, i, t, rfl, e1, e2, e3, e4⟩ := hv v List.mem_cons_self
    obtain ⟨fs, k1, k2, k3⟩ := katTups_of fun v' h' => hv v' (List.mem_cons_of_mem _ h')
    refine ⟨_ :: fs, .cons e1 e2 e3 e4 k1, by simp [k2], fun f hf => ?_⟩
    rcases List.mem_cons.mp hf with rfl | hf
    · exact ⟨i, t, rfl⟩
    · exact k3 f hf
theorem lex_irr : ∀ ns : List Int, HT.lexLt ns ns = false
  | [] => rfl
  | n :: r => by rw [HT.lexLt_cons, if_pos rfl]; exact lex_irr r
theorem lex_tr : ∀ {a b c : List Int}, HT.lexLt a b = true → HT.lexLt b c = true → HT.lexLt a c = true
  | [], [], c, h, _ => by cases h
  | [], _ :: _, [], _, h => by cases h
  | [], _ :: _, _ :: _, _, _ => rfl
  | _ :: _, [], c, h, _ => by cases h
  | _ :: _, _ :: _, [], _, h => by cases h
  | x :: a, y :: b, z :: c, h1, h2 => by
    rw [HT.lexLt_cons] at h1 h2 ⊢
    split at h1
    · next e =>
      subst e
      split at h2
      · next e2 => subst e2; rw [if_pos rfl]; exact lex_tr h1 h2
      · next e2 => rw [if_neg e2]; exact h2
    · next e =>
      have h1' : x < y := of_decide_eq_true h1
      split at h2
      · next e2 => subst e2; rw [if_neg e]; exact h1
      · next e2 =>
        have h2' : y < z := of_decide_eq_true h2
        rw [if_neg (by omega)]; exact decide_eq_true (by omega)
theorem lex_neg : ∀ {a b c : List Int}, HT.lexLt a c = true → HT.lexLt a b = true ∨ HT.lexLt b c = true
  | a, b, [], h => by cases a <;> cases h
  | [], [], _ :: _, _ => .inr rfl
  | [], _ :: _, _ :: _, _ => .inl rfl
  | _ :: _, [], _ :: _, _ => .inr rfl
  | x :: a, y :: b, z :: c, h => by
    rw [HT.lexLt_cons] at h
    rw [HT.lexLt_cons, HT.lexLt_cons]
    split at h
    · next e =>
      subst e
      by_cases e2 : x = y
      · subst e2
        rw [if_pos rfl, if_pos rfl]; exact lex_neg h
      · rw [if_neg e2, if_neg (Ne.symm e2)]
        rcases Int.lt_or_gt_of_ne e2 with l | l
        · exact .inl (decide_eq_true l)
        · exact .inr (decide_eq_true l)
    · next e =>
      have h' : x < z := of_decide_eq_true h
      by_cases e2 : x = y
      · subst e2
        rw [if_neg e]; exact .inr (decide_eq_true h')
      · rw [if_neg e2]
        by_cases l : x < y
        · exact .inl (decide_eq_true l)
        · refine .inr ?_
          rw [if_neg (by omega)]; exact decide_eq_true (by omega)
end S3
end
section
set_option maxRecDepth 100000
set_option maxHeartbeats 4000000
namespace S3
open PySem PySem.Spec PySem.W PyProof.Rows L2
theorem there_of {P : Program} {w : World} {H : Hp} {h : Heap} {a : Addr} {o : HO} (x : ObjOk P w H h a o) : ∃ ob, h.get? a = some ob := by
  cases o with
  | lst xs => obtain ⟨_, _, _, _, e⟩ := x; exact ⟨_, e⟩
  | tup xs => obtain ⟨_, _, _, ob, e, _⟩ := x; exact ⟨_, e⟩
  | dK kvs => obtain ⟨_, _, _, _, o, _, _, e, _⟩ := x; exact ⟨_, e⟩
  | dT kvs => obtain ⟨_, _, _, _, o, _, _, e, _⟩ := x; exact ⟨_, e⟩
  | set S n => obtain ⟨o, _, _, _, e, _⟩ := x; exact ⟨_, e⟩
  | ins C dx fs => obtain ⟨_, _, _, e, _⟩ := x; exact ⟨_, e⟩
  | own y => exact x
  | xd fs => obtain ⟨_, ⟨_, _, _, e, _⟩, _⟩ := x; exact ⟨_, e⟩
  | rng lo hi => obtain ⟨_, _, _, e⟩ := x; exact ⟨_, e⟩
  | frz ob u => exact ⟨_, x.1⟩
  | tbl ps => exact ⟨_, show h.get? a = some _ from x⟩
  | met f y => exact ⟨_, show h.get? a = some _ from x⟩
  | ext φ => exact x.2.1
section
variable {X : Cx} {pins : List (Addr × Obj)} {σ : L2.St} {H : Hp} {s : Shared}
theorem Inv_ledger {h2 : Heap} {d : Addr} {m : Str → Option Value} {ys : List V} {us : List Value} {n : Nat} (I : L2.Inv X pins σ H s) (F0 : Fr X.base X.env.locals s.heap m) (F : Fr X.base X.env.locals h2 m)
    (kp : ∀ b o, b ≠ X.env.locals → s.heap.get? b = some o → h2.get? b = some o) (nd : s.heap.get? d = none) (hd : h2.get? d = some { cls := .type "list", data := .seq us.toArray n }) (rv : Vals ys us) (hz : ys.length ≤ sizeLine) :
    L2.Inv X pins σ (upd H d (.lst ys)) { s with heap := h2 } := by
  have hH : H d = none := by
    cases e : H d with
    | none => rfl
    | some o => obtain ⟨ob, q⟩ := there_of (I.hok d o e); rw [nd] at q; cases q
  have neL : ∀ b o, H b = some o → b ≠ X.env.locals := fun b o e z => by rw [z, I.free] at e; cases e
  have old : ∀ b o, s.heap.get? b = some o → b ≠ d := fun b o e z => by rw [z, nd] at e; cases e
  refine I.step (g' := s.gens) (d' := s.drawn) (t' := s.toks) (ch := []) (fun _ z => nomatch z) (fun b o hb _ _ e _ => kp b o hb e) (fun b o hb _ _ e _ => ⟨o.slots, kp b o hb e⟩)
    (fun b o _ e n => by rw [upd_ne (old b o e)]; exact n) (fun b o _ e => ?_) (fun b xs e => by rw [upd_ne (ne_of_none e hH)]; exact e) (fun b ob u e => by rw [upd_ne (ne_of_none e hH)]; exact e)
    (fun b ps e => ⟨#[], by rw [upd_ne (ne_of_none e hH), e]; simp⟩) (fun m' hm => ?_) (fun b u e => ?_) I.bare
  · by_cases hb : b = X.env.locals
    · obtain ⟨o', _, _, e', _⟩ := F.ns
      exact ⟨o', by rw [hb]; exact e'⟩
    · exact ⟨o, kp b o hb e⟩
  · have : m' = m := by
      obtain ⟨o1, es, ep, e1, d1, _, g1⟩ := hm
      obtain ⟨o2, es2, ep2, e2, d2, _, g2⟩ := F0.ns
      rw [e1] at e2; cases e2
      rw [d1] at d2; cases d2
      funext x
      rw [← g1 x, ← g2 x]
    rw [this]; exact F.ns
  · by_cases hb : b = d
    · subst hb
      rw [upd_same] at e; cases e
      exact ⟨hz, us, n, rv, hd⟩
    · rw [upd_ne hb] at e
      refine (I.hok b u e).stay (fun c v hc z => kp c v ?_ z) (fun c z => by rw [upd_ne (ne_of_none z hH)]; exact z) fun c xs z => by rw [upd_ne (ne_of_none z hH)]; exact z
      rcases hc with rfl | hc
      · exact neL _ _ e
      · exact neL _ _ hc
end
end S3
end
section
set_option maxRecDepth 100000
set_option maxHeartbeats 4000000
namespace S3
open PySem PySem.Spec PySem.W PyProof.Rows L2
section
variable {X : Cx}
end
end S3
end
section
set_option maxRecDepth 100000
set_option maxHeartbeats 4000000
namespace S4
open PySem PySem.SetTable
def tb (m : Nat) : SetTable := ⟨m, #[], #[], 0, true, 0, true⟩
def seqP (m : Nat) (h : Int) : Nat → Probe
  | 0 => (tb m).probeStart h
  | k + 1 => (tb m).advance (seqP m h k)
theorem adv_eq (t : SetTable) (h : Int) (k : Nat) : t.advance (seqP t.mask h k) = seqP t.mask h (k + 1) := rfl
theorem adv_dummy (t : SetTable) (p : Probe) (hp : p.dummy = none) : (t.advance p).dummy = none := by
  unfold advance
  split
  · exact hp
  · exact hp
theorem seqP_dummy (m : Nat) (h : Int) : ∀ k, (seqP m h k).dummy = none
  | 0 => rfl
  | k + 1 => adv_dummy _ _ (seqP_dummy m h k)
def hdI (m : Nat) (h : Int) : Nat → Nat × Nat
  | 0 => (bits h % (m + 1), bits h)
  | n + 1 => leap m (hdI m h n).1 (hdI m h n).2
def run (m i : Nat) : Nat := runEnd m i - i
theorem run_le (m i : Nat) : run m i ≤ 9 := by
  unfold run runEnd
  split <;> omega
def hdK (m : Nat) (h : Int) : Nat → Nat
  | 0 => 0
  | n + 1 => hdK m h n + run m (hdI m h n).1 + 1
theorem hdK_le (m : Nat) (h : Int) : ∀ n, hdK m h n ≤ 10 * n
  | 0 => Nat.le_refl _
  | n + 1 => by
    have := hdK_le m h n
    have := run_le m (hdI m h n).1
    show hdK m h n + run m (hdI m h n).1 + 1 ≤ 10 * (n + 1)
    omega
theorem seq_run (m : Nat) (h : Int) (n : Nat) (e : seqP m h (hdK m h n) = ⟨(hdI m h n).1, run m (hdI m h n).1, (hdI m h n).1, (hdI m h n).2, none⟩) :
    ∀ r, r ≤ run m (hdI m h n).1 → seqP m h (hdK m h n + r) = ⟨(hdI m h n).1 + r, run m (hdI m h n).1 - r, (hdI m h n).1, (hdI m h n).2, none⟩
  | 0, _ => e
  | r + 1, hr => by
    have ih := seq_run m h n e r (by omega)
    show (tb m).advance (seqP m h (hdK m h n + r)) = _
    rw [ih]
    unfold advance
    simp only
    rw [if_pos (by omega)]
    simp only [Probe.mk.injEq, and_true, true_and]
    omega
theorem seq_head (m : Nat) (h : Int) : ∀ n, seqP m h (hdK m h n) = ⟨(hdI m h n).1, run m (hdI m h n).1, (hdI m h n).1, (hdI m h n).2, none⟩
  | 0 => rfl
  | n + 1 => by
    have e := seq_run m h n (seq_head m h n) _ (Nat.le_refl _)
    show (tb m).advance (seqP m h (hdK m h n + run m (hdI m h n).1)) = _
    rw [e]
    unfold advance
    simp only
    rw [if_neg (by omega)]
    rfl
theorem seq_at (m : Nat) (h : Int) (n r : Nat) (hr : r ≤ run m (hdI m h n).1) : (seqP m h (hdK m h n + r)).j = (hdI m h n).1 + r := by
  rw [seq_run m h n (seq_head m h n) r hr]
theorem hdI_per (m : Nat) (h : Int) : ∀ n, (hdI m h n).2 = bits h / 32 ^ n
  | 0 => by simp [hdI]
  | n + 1 => by
    show (hdI m h n).2 / 32 = _
    rw [hdI_per m h n, Nat.div_div_eq_div_mul, Nat.pow_succ]
theorem bits_lt (h : Int) : bits h < 2 ^ 64 := by
  unfold bits
  have h1 : 0 ≤ h % (2 ^ 64 : Int) := Int.emod_nonneg _ (by decide)
  have h2 : h % (2 ^ 64 : Int) < 2 ^ 64 := Int.emod_lt_of_pos _ (by decide)
  omega
theorem per0 (m : Nat) (h : Int) (n : Nat) : (hdI m h (13 + n)).2 = 0 := by
  rw [hdI_per]
  refine Nat.div_eq_of_lt (Nat.lt_of_lt_of_le (bits_lt h) ?_)
  have : (2 : Nat) ^ 64 ≤ 32 ^ 13 := by decide
  exact Nat.le_trans this (Nat.pow_le_pow_right (by decide) (by omega))
def lcg (m : Nat) : Nat → Nat → Nat
  | 0, a => a
  | n + 1, a => (lcg m n a * 5 + 1) % (m + 1)
theorem hd_lcg (m : Nat) (h : Int) : ∀ n, (hdI m h (13 + n)).1 = lcg m n (hdI m h 13).1
  | 0 => rfl
  | n + 1 => by
    show ((hdI m h (13 + n)).1 * 5 + 1 + (hdI m h (13 + n)).2 / 32) % (m + 1) = (lcg m n (hdI m h 13).1 * 5 + 1) % (m + 1)
    rw [per0, hd_lcg m h n]
theorem hd_lt (m : Nat) (h : Int) : ∀ n, (hdI m h n).1 < m + 1
  | 0 => Nat.mod_lt _ (by omega)
  | n + 1 => Nat.mod_lt _ (by omega)
theorem lcg7 : ∀ a, a < 8 → ∀ j, j < 8 → ∃ n, n < 8 ∧ lcg 7 n a = j := by decide +kernel
theorem lcg31 : ∀ a, a < 32 → ∀ j, j < 32 → ∃ n, n < 32 ∧ lcg 31 n a = j := by decide +kernel
def OkM (m : Nat) : Prop := m = 7 ∨ m = 31
theorem coverH {m : Nat} (hm : OkM m) (h : Int) (j : Nat) (hj : j ≤ m) : ∃ n, n < m + 14 ∧ (hdI m h n).1 = j := by
  rcases hm with rfl | rfl
  · obtain ⟨n, h1, h2⟩ := lcg7 _ (hd_lt 7 h 13) j (by omega)
    exact ⟨13 + n, by omega, by rw [hd_lcg]; exact h2⟩
  · obtain ⟨n, h1, h2⟩ := lcg31 _ (hd_lt 31 h 13) j (by omega)
    exact ⟨13 + n, by omega, by rw [hd_lcg]; exact h2⟩
theorem cover {m : Nat} (hm : OkM m) (h : Int) (j : Nat) (hj : j ≤ m) : ∃ K, K < 10 * turns m ∧ (seqP m h K).j = j := by
  obtain ⟨n, h1, h2⟩ := coverH hm h j hj
  refine ⟨hdK m h n, ?_, by rw [seq_head]; exact h2⟩
  have := hdK_le m h n
  unfold turns
  omega
theorem runEnd_le {m i : Nat} (h : i < m + 1) : i + run m i ≤ m := by
  unfold run runEnd
  split <;> omega
theorem adv_le {m : Nat} {p : Probe} (h : p.j + p.more ≤ m) : ((tb m).advance p).j + ((tb m).advance p).more ≤ m := by
  unfold advance
  split
  · simp only; omega
  · simp only [leap]
    exact runEnd_le (Nat.mod_lt _ (by omega))
theorem seqP_more (m : Nat) (h : Int) : ∀ k, (seqP m h k).j + (seqP m h k).more ≤ m
  | 0 => runEnd_le (Nat.mod_lt _ (by omega))
  | k + 1 => adv_le (seqP_more m h k)
theorem seqP_le (m : Nat) (h : Int) (k : Nat) (_ : OkM m) : (seqP m h k).j ≤ m := Nat.le_trans (Nat.le_add_right _ _) (seqP_more m h k)
def Ris (xs : Array Nat) : Prop := ∀ (i j a b : Nat), i < j → xs[i]? = some a → xs[j]? = some b → a < b
theorem below_go {xs : Array Nat} {j : Nat} (hr : Ris xs) : ∀ (fuel lo hi : Nat), lo ≤ hi → hi ≤ xs.size → hi - lo ≤ fuel → (∀ (i a : Nat), i < lo → xs[i]? = some a → a < j) → (∀ (i a : Nat), hi ≤ i → xs[i]? = some a → j ≤ a) →
    below.go xs j fuel lo hi ≤ xs.size ∧ (∀ (i a : Nat), i < below.go xs j fuel lo hi → xs[i]? = some a → a < j) ∧ (∀ (i a : Nat), below.go xs j fuel lo hi ≤ i → xs[i]? = some a → j ≤ a)
  | 0, lo, hi, h1, h2, h3, h4, h5 => by
    have : lo = hi := by omega
    subst this
    exact ⟨h2, h4, h5⟩
  | fuel + 1, lo, hi, h1, h2, h3, h4, h5 => by
    unfold below.go
    by_cases hlt : lo < hi
    · rw [if_pos hlt]
      simp only
      have hmid : (lo + hi) / 2 < xs.size := by omega
      have hg : xs.getD ((lo + hi) / 2) j = xs[(lo + hi) / 2] := by simp [Array.getD, hmid]
      have hq : xs[(lo + hi) / 2]? = some xs[(lo + hi) / 2] := Array.getElem?_eq_getElem hmid
      rw [hg]
      split
      · next hc =>
        refine below_go hr fuel _ hi (by omega) h2 (by omega) (fun i a hi' e => ?_) h5
        by_cases he : i = (lo + hi) / 2
        · subst he; rw [hq] at e; cases e; exact hc
        · exact Nat.lt_trans (hr i _ a _ (by omega) e hq) hc
      · next hc =>
        refine below_go hr fuel lo _ (by omega) (by omega) (by omega) h4 (fun i a hi' e => ?_)
        by_cases he : i = (lo + hi) / 2
        · subst he; rw [hq] at e; cases e; omega
        · have := hr _ i _ a (by omega) hq e
          omega
    · rw [if_neg hlt]
      have : lo = hi := by omega
      subst this
      exact ⟨h2, h4, h5⟩
theorem below_ok {xs : Array Nat} (hr : Ris xs) (j : Nat) : below xs j ≤ xs.size ∧ (∀ (i a : Nat), i < below xs j → xs[i]? = some a → a < j) ∧ (∀ (i a : Nat), below xs j ≤ i → xs[i]? = some a → j ≤ a) :=
  below_go hr xs.size 0 xs.size (Nat.zero_le _) (Nat.le_refl _) (by omega) (fun _ _ h => absurd h (Nat.not_lt_zero _)) fun i a hi e => by
    rw [Array.getElem?_eq_none hi] at e; cases e
theorem below_find {xs : Array Nat} (hr : Ris xs) {i j : Nat} (h : xs[i]? = some j) : below xs j = i := by
  obtain ⟨_, h2, h3⟩ := below_ok hr j
  rcases Nat.lt_trichotomy (below xs j) i with l | l | l
  · have hb : below xs j < xs.size := Nat.lt_trans l (Array.getElem?_eq_some_iff.mp h).1
    have e : xs[below xs j]? = some xs[below xs j] := Array.getElem?_eq_getElem hb
    have q1 := hr _ _ _ _ l e h
    have q2 := h3 _ _ (Nat.le_refl _) e
    omega
  · exact l
  · have := h2 i j l h
    omega
theorem slot_live {t : SetTable} {i j : Nat} (h : t.slot j = .live i) : t.place[i]? = some j := by
  unfold slot at h
  simp only at h
  split at h
  · next hc => cases h; exact eq_of_beq hc
  · split at h <;> cases h
theorem slot_at {t : SetTable} (hr : Ris t.place) {i j : Nat} (h : t.place[i]? = some j) : t.slot j = .live i := by
  unfold slot
  simp only
  rw [below_find hr h, h]
  simp
theorem slot_or {t : SetTable} (hd : t.dummies = #[]) (j : Nat) : (∃ i, t.slot j = .live i) ∨ t.slot j = .empty := by
  unfold slot
  simp only
  rw [hd]
  split
  · exact .inl ⟨_, rfl⟩
  · exact .inr (by simp [has])
theorem slot_empty {t : SetTable} (hr : Ris t.place) {j : Nat} (h : t.slot j = .empty) : ∀ (i : Nat), t.place[i]? ≠ some j := fun i e => by
  rw [slot_at hr e] at h; cases h
theorem fill_up {xs : Array Nat} (hr : Ris xs) {n : Nat} (h : ∀ (j : Nat), j < n → ∃ i : Nat, xs[i]? = some j) : ∀ (j : Nat), j < n → ∃ i : Nat, j ≤ i ∧ xs[i]? = some j
  | 0, hj => by obtain ⟨i, e⟩ := h 0 hj; exact ⟨i, Nat.zero_le _, e⟩
  | j + 1, hj => by
    obtain ⟨i, h1, h2⟩ := fill_up hr h j (by omega)
    obtain ⟨i', e⟩ := h (j + 1) hj
    refine ⟨i', ?_, e⟩
    rcases Nat.lt_trichotomy i i' with l | l | l
    · omega
    · subst l; rw [h2] at e; cases e
    · have := hr _ _ _ _ l e h2; omega
theorem some_free {t : SetTable} (hr : Ris t.place) (hd : t.dummies = #[]) (hs : t.place.size ≤ t.mask) : ∃ j, j ≤ t.mask ∧ t.slot j = .empty := by
  apply Classical.byContradiction
  intro hn
  have : ∀ (j : Nat), j < t.mask + 1 → ∃ i : Nat, t.place[i]? = some j := fun j hj => by
    rcases slot_or hd j with ⟨i, e⟩ | e
    · exact ⟨i, slot_live e⟩
    · exact absurd ⟨j, by omega, e⟩ hn
  obtain ⟨i, h1, h2⟩ := fill_up hr this t.mask (by omega)
  have := (Array.getElem?_eq_some_iff.mp h2).1
  omega
theorem go_spec {t : SetTable} (hd : t.dummies = #[]) (ha : Nat → Int) (h : Int) (K : Nat) (hK : t.slot (seqP t.mask h K).j = .empty) : ∀ (fuel k : Nat), k ≤ K → K - k < fuel →
    ∃ k', k ≤ k' ∧ k' ≤ K ∧ (∀ m, k ≤ m → m < k' → ∃ i, t.slot (seqP t.mask h m).j = .live i ∧ ha i ≠ h) ∧
      ((t.slot (seqP t.mask h k').j = .empty ∧ probe.go t ha h fuel (seqP t.mask h k) = some (.empty (seqP t.mask h k').j none)) ∨
       (∃ i, t.slot (seqP t.mask h k').j = .live i ∧ ha i = h ∧ probe.go t ha h fuel (seqP t.mask h k) = some (.candidate (seqP t.mask h k').j i (seqP t.mask h (k' + 1)))))
  | 0, k, h1, h2 => by omega
  | fuel + 1, k, h1, h2 => by
    unfold probe.go
    rcases slot_or hd (seqP t.mask h k).j with ⟨i, e⟩ | e
    · rw [e]
      simp only
      by_cases hh : ha i = h
      · rw [if_pos (by simpa using hh)]
        exact ⟨k, Nat.le_refl _, h1, fun m a b => by omega, .inr ⟨i, e, hh, rfl⟩⟩
      · rw [if_neg (by simpa using hh)]
        have hne : k ≠ K := fun z => by subst z; rw [hK] at e; cases e
        obtain ⟨k', g1, g2, g3, g4⟩ := go_spec hd ha h K hK fuel (k + 1) (by omega) (by omega)
        refine ⟨k', by omega, g2, fun m a b => ?_, ?_⟩
        · by_cases hm : m = k
          · subst hm; exact ⟨i, e, hh⟩
          · exact g3 m (by omega) b
        · rw [adv_eq]; exact g4
    · rw [e]
      simp only [seqP_dummy]
      exact ⟨k, Nat.le_refl _, h1, fun m a b => by omega, .inl ⟨e, rfl⟩⟩
end S4
end
section
set_option maxRecDepth 100000
set_option maxHeartbeats 4000000
namespace S4
open PySem PySem.SetTable
abbrev Ent := Int × Value
def At (pl : Array Nat) (es : Array Ent) (j : Nat) (e : Ent) : Prop := ∃ i : Nat, pl[i]? = some j ∧ es[i]? = some e
structure TPre (t : SetTable) (es : Array Ent) : Prop where
  msk : OkM t.mask
  dum : t.dummies = #[]
  siz : t.place.size = es.size
  ris : Ris t.place
  inb : ∀ (i a : Nat), t.place[i]? = some a → a ≤ t.mask
  way : ∀ (j : Nat) (e : Ent), At t.place es j e → ∃ k, (seqP t.mask e.1 k).j = j ∧ ∀ m, m < k → ∃ e', At t.place es (seqP t.mask e.1 m).j e'
structure TOk (t : SetTable) (es : Array Ent) : Prop extends TPre t es where
  few : es.size * 5 < t.mask * 3
theorem TPre.fits {t : SetTable} {es : Array Ent} (k : TPre t es) (h : es.size ≤ t.mask) : t.fits es.size = true := by
  unfold SetTable.fits fill
  rw [k.siz, k.dum]
  simpa using h
theorem TOk.le {t : SetTable} {es : Array Ent} (k : TOk t es) : es.size ≤ t.mask := by
  have := k.few
  omega
theorem TPre.at_of {t : SetTable} {es : Array Ent} (k : TPre t es) {i j : Nat} (h : t.place[i]? = some j) : ∃ e, es[i]? = some e ∧ At t.place es j e := by
  have hi : i < es.size := by rw [← k.siz]; exact (Array.getElem?_eq_some_iff.mp h).1
  exact ⟨es[i], Array.getElem?_eq_getElem hi, i, h, Array.getElem?_eq_getElem hi⟩
theorem fresh_ok (led : Bool) : TOk (SetTable.fresh 0 0 led) #[] where
  msk := .inl rfl
  dum := rfl
  siz := rfl
  ris := fun i j a b _ h _ => by simp [SetTable.fresh] at h
  inb := fun i a h => by simp [SetTable.fresh] at h
  way := fun j e ⟨i, h, _⟩ => by simp [SetTable.fresh] at h
  few := by show 0 * 5 < 7 * 3; decide
theorem ins_get {α : Type} (xs : Array α) (p : Nat) (x : α) (hp : p ≤ xs.size) (i : Nat) : (SetTable.insertAt xs p x)[i]? = if i < p then xs[i]? else if i = p then some x else xs[i - 1]? := by
  rw [← Array.getElem?_toList, SetTable.toList_insertAt]
  have hl : (xs.toList.take p).length = p := by simp [hp]
  by_cases h1 : i < p
  · rw [if_pos h1, List.getElem?_append_left (by omega), List.getElem?_take_of_lt h1, Array.getElem?_toList]
  · rw [if_neg h1, List.getElem?_append_right (by omega), hl]
    by_cases h2 : i = p
    · subst h2; simp
    · rw [if_neg h2]
      obtain ⟨d, hd⟩ : ∃ d, i - p = d + 1 := ⟨i - p - 1, by omega⟩
      rw [hd, List.getElem?_cons_succ, List.getElem?_drop, show p + d = i - 1 by omega, Array.getElem?_toList]
theorem ins_size {α : Type} (xs : Array α) (p : Nat) (x : α) : (SetTable.insertAt xs p x).size = xs.size + 1 := by
  have := (SetTable.insertAt_perm xs p x).length_eq
  simpa using this
theorem ins_at {pl : Array Nat} {es : Array Ent} {p j : Nat} {e : Ent} (hs : pl.size = es.size) (hp : p ≤ pl.size) (j' : Nat) (e' : Ent) :
    At (SetTable.insertAt pl p j) (SetTable.insertAt es p e) j' e' ↔ At pl es j' e' ∨ (j' = j ∧ e' = e) := by
  have hp2 : p ≤ es.size := by rw [← hs]; exact hp
  constructor
  · rintro ⟨i, h1, h2⟩
    rw [ins_get _ _ _ hp] at h1
    rw [ins_get _ _ _ hp2] at h2
    by_cases c1 : i < p
    · rw [if_pos c1] at h1 h2; exact .inl ⟨i, h1, h2⟩
    · rw [if_neg c1] at h1 h2
      by_cases c2 : i = p
      · rw [if_pos c2] at h1 h2; cases h1; cases h2; exact .inr ⟨rfl, rfl⟩
      · rw [if_neg c2] at h1 h2; exact .inl ⟨_, h1, h2⟩
  · rintro (⟨i, h1, h2⟩ | ⟨rfl, rfl⟩)
    · by_cases c1 : i < p
      · exact ⟨i, by rw [ins_get _ _ _ hp, if_pos c1]; exact h1, by rw [ins_get _ _ _ hp2, if_pos c1]; exact h2⟩
      · exact ⟨i + 1, by rw [ins_get _ _ _ hp, if_neg (by omega), if_neg (by omega)]; exact h1, by rw [ins_get _ _ _ hp2, if_neg (by omega), if_neg (by omega)]; exact h2⟩
    · exact ⟨p, by rw [ins_get _ _ _ hp, if_neg (by omega), if_pos rfl], by rw [ins_get _ _ _ hp2, if_neg (by omega), if_pos rfl]⟩
theorem put_eq {t : SetTable} (hd : t.dummies = #[]) (j : Nat) : t.put j = ({ t with place := SetTable.insertAt t.place (below t.place j) j }, below t.place j) := by
  unfold put
  simp only
  rw [hd]
  have : has (#[] : Array Nat) j = false := by simp [has]
  rw [this]
  cases t
  simp only at hd
  subst hd
  rfl
theorem put_ok {t : SetTable} {es : Array Ent} (k : TPre t es) {j : Nat} {e : Ent} {K : Nat} (hj : j ≤ t.mask) (hf : t.slot j = .empty) (hK : (seqP t.mask e.1 K).j = j) (hb : ∀ m, m < K → ∃ e', At t.place es (seqP t.mask e.1 m).j e') :
    TPre (t.put j).1 (SetTable.insertAt es (t.put j).2 e) ∧ (t.put j).1.mask = t.mask ∧ (t.put j).1.led = t.led ∧ (t.put j).1.plain = t.plain := by
  obtain ⟨b1, b2, b3⟩ := below_ok k.ris j
  have hno := slot_empty k.ris hf
  rw [put_eq k.dum]
  refine ⟨⟨k.msk, k.dum, ?_, ?_, ?_, ?_⟩, rfl, rfl, rfl⟩
  · show (SetTable.insertAt t.place (below t.place j) j).size = _
    rw [ins_size, ins_size, k.siz]
  · intro i1 i2 a b hlt h1 h2
    have h1' : (SetTable.insertAt t.place (below t.place j) j)[i1]? = some a := h1
    have h2' : (SetTable.insertAt t.place (below t.place j) j)[i2]? = some b := h2
    rw [ins_get _ _ _ b1] at h1' h2'
    by_cases c1 : i1 < below t.place j
    · rw [if_pos c1] at h1'
      by_cases c2 : i2 < below t.place j
      · rw [if_pos c2] at h2'; exact k.ris _ _ _ _ hlt h1' h2'
      · rw [if_neg c2] at h2'
        by_cases c3 : i2 = below t.place j
        · rw [if_pos c3] at h2'; cases h2'; exact b2 _ _ c1 h1'
        · rw [if_neg c3] at h2'; exact k.ris _ _ _ _ (by omega) h1' h2'
    · rw [if_neg c1] at h1'
      rw [if_neg (by omega), if_neg (by omega)] at h2'
      by_cases c3 : i1 = below t.place j
      · rw [if_pos c3] at h1'; cases h1'
        have q := b3 _ _ (by omega) h2'
        have : b ≠ j := fun z => by subst z; exact hno _ h2'
        omega
      · rw [if_neg c3] at h1'; exact k.ris _ _ _ _ (by omega) h1' h2'
  · intro i a h
    have h' : (SetTable.insertAt t.place (below t.place j) j)[i]? = some a := h
    rw [ins_get _ _ _ b1] at h'
    by_cases c1 : i < below t.place j
    · rw [if_pos c1] at h'; exact k.inb _ _ h'
    · rw [if_neg c1] at h'
      by_cases c3 : i = below t.place j
      · rw [if_pos c3] at h'; cases h'; exact hj
      · rw [if_neg c3] at h'; exact k.inb _ _ h'
  · intro j' e' h
    have up : ∀ {a b}, At t.place es a b → At (SetTable.insertAt t.place (below t.place j) j) (SetTable.insertAt es (below t.place j) e) a b := fun z => (ins_at k.siz b1 _ _).mpr (.inl z)
    rcases (ins_at k.siz b1 j' e').mp h with h' | ⟨rfl, rfl⟩
    · obtain ⟨n, h1, h2⟩ := k.way _ _ h'
      exact ⟨n, h1, fun m hm => let ⟨x, hx⟩ := h2 m hm; ⟨x, up hx⟩⟩
    · exact ⟨K, hK, fun m hm => let ⟨x, hx⟩ := hb m hm; ⟨x, up hx⟩⟩
abbrev Own := Array (Option Nat)
def OccO (o : Own) (j : Nat) : Prop := ∃ k, o[j]? = some (some k)
structure Laid (m : Nat) (hs : List Int) (o : Own) : Prop where
  siz : o.size = m + 1
  way : ∀ (j k : Nat), o[j]? = some (some k) → ∃ x, hs[k]? = some x ∧ ∃ n, (seqP m x n).j = j ∧ ∀ i, i < n → OccO o (seqP m x i).j
theorem free_spec {m : Nat} {o : Own} (hsz : o.size = m + 1) (h : Int) (n' : Nat) (hn : o[(hdI m h n').1]? = some none) : ∀ (fuel n : Nat), n ≤ n' → n' - n < fuel →
    ∃ idx, hdK m h n ≤ idx ∧ layClean.free m o fuel (hdI m h n).1 (hdI m h n).2 = some (seqP m h idx).j ∧ o[(seqP m h idx).j]? = some none ∧ ∀ i, hdK m h n ≤ i → i < idx → OccO o (seqP m h i).j
  | 0, n, h1, h2 => by omega
  | fuel + 1, n, h1, h2 => by
    have hrun : runEnd m (hdI m h n).1 + 1 - (hdI m h n).1 = run m (hdI m h n).1 + 1 := by
      unfold run runEnd
      split <;> omega
    have hend : (hdI m h n).1 + run m (hdI m h n).1 ≤ m := by
      have := hd_lt m h n
      unfold run runEnd
      split <;> omega
    have get : ∀ k, k ≤ run m (hdI m h n).1 → o.getD ((hdI m h n).1 + k) (some 0) = o[(hdI m h n).1 + k]?.getD (some 0) := fun k _ => by simp
    have occ : ∀ k, k ≤ run m (hdI m h n).1 → (o.getD ((hdI m h n).1 + k) (some 0)).isNone = false → OccO o (seqP m h (hdK m h n + k)).j := fun k hk hq => by
      rw [seq_at m h n k hk]
      have hlt : (hdI m h n).1 + k < o.size := by omega
      rw [get k hk, Array.getElem?_eq_getElem hlt] at hq
      cases e : o[(hdI m h n).1 + k] with
      | none => simp [e] at hq
      | some z => exact ⟨z, by rw [Array.getElem?_eq_getElem hlt, e]⟩
    unfold layClean.free
    rw [hrun]
    cases q : (List.range (run m (hdI m h n).1 + 1)).find? (fun k => (o.getD ((hdI m h n).1 + k) (some 0)).isNone) with
    | some k =>
      simp only
      have hk := List.find?_some q
      have hmem : k ≤ run m (hdI m h n).1 := by
        have := List.mem_of_find?_eq_some q
        rw [List.mem_range] at this; omega
      refine ⟨hdK m h n + k, by omega, by rw [seq_at m h n k hmem], ?_, fun i a b => ?_⟩
      · rw [seq_at m h n k hmem]
        have hlt : (hdI m h n).1 + k < o.size := by omega
        rw [get k hmem, Array.getElem?_eq_getElem hlt] at hk
        rw [Array.getElem?_eq_getElem hlt]
        cases e : o[(hdI m h n).1 + k] with
        | none => rfl
        | some z => simp [e] at hk
      · obtain ⟨d, rfl⟩ : ∃ d, i = hdK m h n + d := ⟨i - hdK m h n, by omega⟩
        refine occ d (by omega) ?_
        have hall := List.find?_eq_some_iff_getElem.mp q
        obtain ⟨_, ix, hix, e1, e2⟩ := hall
        simp at e1
        subst e1
        have := e2 d (by omega)
        simpa using this
    | none =>
      simp only
      have hall := List.find?_eq_none.mp q
      have occ' : ∀ k, k ≤ run m (hdI m h n).1 → OccO o (seqP m h (hdK m h n + k)).j := fun k hk => occ k hk (by
        have := hall k (List.mem_range.mpr (by omega))
        exact Bool.eq_false_iff.mpr this)
      have hne : n ≠ n' := fun z => by
        subst z
        obtain ⟨k, e⟩ := occ' 0 (Nat.zero_le _)
        rw [seq_at m h n 0 (Nat.zero_le _)] at e
        rw [Nat.add_zero, hn] at e; cases e
      obtain ⟨idx, g1, g2, g3, g4⟩ := free_spec hsz h n' hn fuel (n + 1) (by omega) (by omega)
      have hK : hdK m h (n + 1) = hdK m h n + run m (hdI m h n).1 + 1 := rfl
      refine ⟨idx, by omega, g2, g3, fun i a b => ?_⟩
      by_cases hi : hdK m h (n + 1) ≤ i
      · exact g4 i hi b
      · obtain ⟨d, rfl⟩ : ∃ d, i = hdK m h n + d := ⟨i - hdK m h n, by omega⟩
        exact occ' d (by omega)
def liveL (m : Nat) (f : Nat → Option Nat) : List (Nat × Nat) := (List.range (m + 1)).filterMap fun j => (f j).map fun k => (j, k)
theorem fm_congr {α β : Type} {f g : α → Option β} : ∀ {l : List α}, (∀ x ∈ l, f x = g x) → l.filterMap f = l.filterMap g
  | [], _ => rfl
  | x :: l, h => by rw [List.filterMap_cons, List.filterMap_cons, h x List.mem_cons_self, fm_congr fun y hy => h y (List.mem_cons_of_mem _ hy)]
theorem live_put {m j k : Nat} {f g : Nat → Option Nat} (hj : j < m + 1) (hf : f j = none) (hg : g j = some k) (ho : ∀ i, i ≠ j → g i = f i) : (liveL m g).Perm ((j, k) :: liveL m f) := by
  unfold liveL
  have e : List.range (m + 1) = List.range j ++ j :: (List.range' (j + 1) (m - j)) := by
    rw [List.range_eq_range', List.range_eq_range', show m + 1 = j + (1 + (m - j)) by omega, ← List.range'_append_1, ← List.range'_append_1]
    simp
  rw [e, List.filterMap_append, List.filterMap_append, List.filterMap_cons, List.filterMap_cons, hf, hg]
  simp only [Option.map_some, Option.map_none]
  rw [fm_congr (l := List.range j) (g := fun j => (f j).map fun k => (j, k)) fun x hx => by rw [ho x (by rw [List.mem_range] at hx; omega)],
    fm_congr (l := List.range' (j + 1) (m - j)) (g := fun j => (f j).map fun k => (j, k)) fun x hx => by rw [ho x (by rw [List.mem_range'_1] at hx; omega)]]
  exact List.perm_middle
def fo (o : Own) (j : Nat) : Option Nat := o.getD j none
theorem fo_get {o : Own} {j k : Nat} : fo o j = some k ↔ o[j]? = some (some k) := by
  unfold fo
  rw [Array.getD_eq_getD_getElem?]
  cases o[j]? with
  | none => simp
  | some z => simp
structure LaidN (m : Nat) (hs : List Int) (o : Own) : Prop extends Laid m hs o where
  all : ((liveL m (fo o)).map (·.2)).Perm (List.range hs.length)
theorem live_len {m : Nat} {hs : List Int} {o : Own} (L : LaidN m hs o) : (liveL m (fo o)).length = hs.length := by
  have := L.all.length_eq
  simpa using this
theorem exists_free {m : Nat} {hs : List Int} {o : Own} (L : LaidN m hs o) (hl : hs.length ≤ m) : ∃ j, j ≤ m ∧ o[j]? = some none := by
  apply Classical.byContradiction
  intro hn
  have hocc : ∀ j, j ∈ List.range (m + 1) → ∃ k, fo o j = some k := fun j hj => by
    rw [List.mem_range] at hj
    have hlt : j < o.size := by rw [L.siz]; exact hj
    cases e : o[j] with
    | none => exact absurd ⟨j, by omega, by rw [Array.getElem?_eq_getElem hlt, e]⟩ hn
    | some k => exact ⟨k, fo_get.mpr (by rw [Array.getElem?_eq_getElem hlt, e])⟩
  have : ∀ l : List Nat, (∀ j ∈ l, ∃ k, fo o j = some k) → (l.filterMap fun j => (fo o j).map fun k => (j, k)).length = l.length := by
    intro l
    induction l with
    | nil => intro _; rfl
    | cons x l ih =>
      intro h
      obtain ⟨k, e⟩ := h x List.mem_cons_self
      rw [List.filterMap_cons, e]
      simp only [Option.map_some, List.length_cons]
      rw [ih fun j hj => h j (List.mem_cons_of_mem _ hj)]
  have h1 := this _ hocc
  have h2 := live_len L
  unfold liveL at h2
  rw [h1, List.length_range] at h2
  omega
theorem lay_step {m : Nat} (hm : OkM m) {hs : List Int} {o : Own} (L : LaidN m hs o) (hl : hs.length ≤ m) (x : Int) :
    ∃ j, layClean.free m o (turns m) (bits x % (m + 1)) (bits x) = some j ∧ LaidN m (hs ++ [x]) (o.setIfInBounds j (some hs.length)) := by
  obtain ⟨j0, hj0, hf0⟩ := exists_free L hl
  obtain ⟨n', hn1, hn2⟩ := coverH hm x j0 hj0
  obtain ⟨idx, _, g2, g3, g4⟩ := free_spec L.siz x n' (by rw [hn2]; exact hf0) (turns m) 0 (Nat.zero_le _) (by unfold turns; omega)
  refine ⟨(seqP m x idx).j, g2, ?_⟩
  generalize hj : (seqP m x idx).j = j at g3 ⊢
  have hjlt : j < o.size := (Array.getElem?_eq_some_iff.mp g3).1
  have self : (o.setIfInBounds j (some hs.length))[j]? = some (some hs.length) := by simp [hjlt]
  have oth : ∀ i, i ≠ j → (o.setIfInBounds j (some hs.length))[i]? = o[i]? := fun i hi => by
    rw [Array.getElem?_setIfInBounds_ne (Ne.symm hi)]
  have up : ∀ i, OccO o i → OccO (o.setIfInBounds j (some hs.length)) i := fun i ⟨k, e⟩ => by
    by_cases hi : i = j
    · subst hi; exact ⟨_, self⟩
    · exact ⟨k, by rw [oth i hi]; exact e⟩
  refine ⟨⟨by rw [Array.size_setIfInBounds]; exact L.siz, fun i k e => ?_⟩, ?_⟩
  · by_cases hi : i = j
    · subst hi
      rw [self] at e; cases e
      exact ⟨x, by simp, idx, hj, fun q hq => up _ (g4 q (Nat.zero_le _) hq)⟩
    · rw [oth i hi] at e
      obtain ⟨y, h1, n, h2, h3⟩ := L.way i k e
      refine ⟨y, ?_, n, h2, fun q hq => up _ (h3 q hq)⟩
      rw [List.getElem?_append_left (List.getElem?_eq_some_iff.mp h1).1]; exact h1
  · have hp := live_put (m := m) (j := j) (k := hs.length) (f := fo o) (g := fo (o.setIfInBounds j (some hs.length))) (by rw [← L.siz]; exact hjlt)
      (by unfold fo; rw [Array.getD_eq_getD_getElem?, g3]; rfl) (fo_get.mpr self) (fun i hi => by unfold fo; rw [Array.getD_eq_getD_getElem?, Array.getD_eq_getD_getElem?, oth i hi])
    refine (hp.map (·.2)).trans ?_
    rw [List.length_append, List.length_singleton, List.range_succ]
    exact (List.Perm.cons _ L.all).trans (List.perm_append_singleton _ _).symm
theorem lay_all {m : Nat} (hm : OkM m) : ∀ (rest hs : List Int) (o : Own), LaidN m hs o → hs.length + rest.length ≤ m + 1 →
    ∃ o', rest.foldl (fun (acc : Option (Own × Nat)) h => do
      let (owner, k) ← acc
      let j ← layClean.free m owner (turns m) (bits h % (m + 1)) (bits h)
      pure (owner.setIfInBounds j (some k), k + 1)) (some (o, hs.length)) = some (o', hs.length + rest.length) ∧ LaidN m (hs ++ rest) o'
  | [], hs, o, L, _ => ⟨o, rfl, by rw [List.append_nil]; exact L⟩
  | x :: rest, hs, o, L, hl => by
    rw [List.length_cons] at hl
    obtain ⟨j, e, L'⟩ := lay_step hm L (by omega) x
    obtain ⟨o', e', L''⟩ := lay_all hm rest (hs ++ [x]) _ L' (by simp; omega)
    refine ⟨o', ?_, by rw [List.append_assoc] at L''; exact L''⟩
    rw [List.foldl_cons]
    simp only [Option.bind_eq_bind, Option.bind_some, e]
    rw [List.length_append, List.length_singleton] at e'
    simp only [Option.bind_eq_bind] at e'
    rw [List.length_cons, show hs.length + (rest.length + 1) = hs.length + 1 + rest.length by omega]
    exact e'
theorem lay_clean {m : Nat} (hm : OkM m) (hashes : Array Int) (hl : hashes.size ≤ m + 1) : ∃ o, layClean m hashes = some o ∧ LaidN m hashes.toList o := by
  have L0 : LaidN m [] (Array.replicate (m + 1) none) := by
    refine ⟨⟨by simp, fun j k e => ?_⟩, ?_⟩
    · rw [Array.getElem?_replicate] at e
      split at e <;> cases e
    · have : liveL m (fo (Array.replicate (m + 1) none)) = [] := by
        unfold liveL
        rw [List.filterMap_eq_nil_iff]
        intro j _
        have : fo (Array.replicate (m + 1) none) j = none := by
          cases e : fo (Array.replicate (m + 1) none) j with
          | none => rfl
          | some k =>
            rw [fo_get, Array.getElem?_replicate] at e
            split at e <;> cases e
        rw [this]; rfl
      rw [this]
      exact .refl _
  obtain ⟨o, e, L⟩ := lay_all hm hashes.toList [] _ L0 (by simpa using hl)
  refine ⟨o, ?_, by simpa using L⟩
  unfold layClean
  rw [← Array.foldl_toList]
  rw [show (Array.replicate (m + 1) (none : Option Nat), 0) = (Array.replicate (m + 1) none, ([] : List Int).length) from rfl]
  rw [e]
  rfl
end S4
end
section
set_option maxRecDepth 100000
set_option maxHeartbeats 4000000
namespace S4
open PySem PySem.SetTable
theorem live_sub (f : Nat → Option Nat) : ∀ l : List Nat, ((l.filterMap fun j => (f j).map fun k => (j, k)).map (·.1)).Sublist l
  | [] => .slnil
  | x :: l => by
    rw [List.filterMap_cons]
    cases f x with
    | none => exact .cons _ (live_sub f l)
    | some k => exact .cons₂ _ (live_sub f l)
theorem live_mem {m : Nat} {f : Nat → Option Nat} {j k : Nat} : (j, k) ∈ liveL m f ↔ j < m + 1 ∧ f j = some k := by
  unfold liveL
  rw [List.mem_filterMap]
  constructor
  · rintro ⟨a, h1, h2⟩
    cases e : f a with
    | none => rw [e] at h2; cases h2
    | some b =>
      rw [e] at h2
      cases h2
      exact ⟨List.mem_range.mp h1, e⟩
  · rintro ⟨h1, h2⟩
    exact ⟨j, List.mem_range.mpr h1, by rw [h2]; rfl⟩
theorem ris_of {l : List Nat} (h : l.Pairwise (· < ·)) : Ris l.toArray := by
  intro i j a b hij ha hb
  rw [List.getElem?_toArray] at ha hb
  obtain ⟨hi, ea⟩ := List.getElem?_eq_some_iff.mp ha
  obtain ⟨hj, eb⟩ := List.getElem?_eq_some_iff.mp hb
  have := List.pairwise_iff_getElem.mp h i j hi hj hij
  rw [ea, eb] at this; exact this
theorem fm_get {α β : Type} {f : α → Option β} : ∀ {l : List α}, (∀ x ∈ l, ∃ y, f x = some y) → ∀ i : Nat, (l.filterMap f)[i]? = l[i]?.bind f
  | [], _, i => by simp
  | x :: l, h, i => by
    obtain ⟨y, e⟩ := h x List.mem_cons_self
    rw [List.filterMap_cons, e]
    cases i with
    | zero => simp [e]
    | succ i => simpa using fm_get (fun z hz => h z (List.mem_cons_of_mem _ hz)) i
theorem laid_ok {es : Array Ent} {m : Nat} (hm : OkM m) (hf : es.size * 5 < m * 3) (fg mv : Nat) (ld pl : Bool) :
    ∃ (t' : SetTable) (order : Array Nat), laid m fg mv ld pl (es.map (·.1)) = some (t', order) ∧ order.toList.Perm (List.range es.size) ∧ (order.filterMap (es[·]?)).size = es.size ∧ TOk t' (order.filterMap (es[·]?)) ∧ t'.led = ld ∧ t'.plain = pl ∧ t'.mask = m := by
  obtain ⟨o, e, L⟩ := lay_clean hm (es.map (·.1)) (by rw [Array.size_map]; omega)
  have hlen : (es.map (·.1)).toList.length = es.size := by simp
  have hall := L.all
  rw [hlen] at hall
  have hk : ∀ p ∈ liveL m (fo o), ∃ y, es[p.2]? = some y := fun p hp => by
    have : p.2 ∈ List.range es.size := hall.mem_iff.mp (List.mem_map_of_mem hp)
    rw [List.mem_range] at this
    exact ⟨es[p.2], Array.getElem?_eq_getElem this⟩
  have hes : (((liveL m (fo o)).map (·.2)).toArray.filterMap (es[·]?)).toList = ((liveL m (fo o)).map (·.2)).filterMap (es[·]?) := by
    rw [Array.toList_filterMap]
  have hperm : (((liveL m (fo o)).map (·.2)).toArray.filterMap (es[·]?)).toList.Perm es.toList := by
    rw [hes]
    exact (hall.filterMap _).trans (by rw [filterMap_getElem?_range])
  have hsz : (((liveL m (fo o)).map (·.2)).toArray.filterMap (es[·]?)).size = es.size := by
    have := hperm.length_eq
    simpa using this
  have hat : ∀ (j : Nat) (x : Ent), At (((liveL m (fo o)).map (·.1)).toArray) (((liveL m (fo o)).map (·.2)).toArray.filterMap (es[·]?)) j x ↔ ∃ k, (j, k) ∈ liveL m (fo o) ∧ es[k]? = some x := by
    intro j x
    have key : ∀ i : Nat, (((liveL m (fo o)).map (·.2)).toArray.filterMap (es[·]?))[i]? = ((liveL m (fo o))[i]?).bind fun p => es[p.2]? := fun i => by
      rw [← Array.getElem?_toList, hes, fm_get (fun z hz => by
        obtain ⟨p, hp, rfl⟩ := List.mem_map.mp hz
        exact hk p hp) i, List.getElem?_map]
      cases (liveL m (fo o))[i]? <;> rfl
    constructor
    · rintro ⟨i, h1, h2⟩
      rw [List.getElem?_toArray, List.getElem?_map] at h1
      rw [key] at h2
      cases q : (liveL m (fo o))[i]? with
      | none => rw [q] at h1; cases h1
      | some p =>
        rw [q] at h1 h2
        cases h1
        exact ⟨p.2, List.mem_of_getElem? q, h2⟩
    · rintro ⟨k, h1, h2⟩
      obtain ⟨i, hi⟩ := List.mem_iff_getElem?.mp h1
      exact ⟨i, by rw [List.getElem?_toArray, List.getElem?_map, hi]; rfl, by rw [key, hi]; exact h2⟩
  refine ⟨⟨m, ((liveL m (fo o)).map (·.1)).toArray, #[], fg, ld, mv, pl⟩, ((liveL m (fo o)).map (·.2)).toArray, ?_, by simpa using hall, hsz, ⟨⟨hm, rfl, ?_, ?_, ?_, ?_⟩, ?_⟩, rfl, rfl, rfl⟩
  · unfold laid
    rw [e]
    rfl
  · rw [hsz]
    show (((liveL m (fo o)).map (·.1)).toArray).size = _
    rw [List.size_toArray, List.length_map, live_len L, hlen]
  · exact ris_of (List.Pairwise.sublist (live_sub _ _) List.pairwise_lt_range)
  · intro i a h
    have h' : (((liveL m (fo o)).map (·.1)).toArray)[i]? = some a := h
    rw [List.getElem?_toArray] at h'
    obtain ⟨p, hp, rfl⟩ := List.mem_map.mp (List.mem_of_getElem? h')
    have := (live_mem.mp hp).1
    show p.1 ≤ m
    omega
  · intro j x hx
    obtain ⟨k, h1, h2⟩ := (hat j x).mp hx
    obtain ⟨h3, h4⟩ := live_mem.mp h1
    obtain ⟨y, g1, n, g2, g3⟩ := L.way j k (fo_get.mp h4)
    have ey : y = x.1 := by
      rw [Array.getElem?_toList, Array.getElem?_map, h2] at g1
      cases g1; rfl
    subst ey
    refine ⟨n, g2, fun i hi => ?_⟩
    obtain ⟨k', g5⟩ := g3 i hi
    have hlt : (seqP m x.1 i).j < m + 1 := by rw [← L.siz]; exact (Array.getElem?_eq_some_iff.mp g5).1
    have hm' := live_mem.mpr ⟨hlt, fo_get.mpr g5⟩
    obtain ⟨e', g6⟩ := hk _ hm'
    exact ⟨e', (hat _ _).mpr ⟨k', hm', g6⟩⟩
  · rw [hsz]; exact hf
theorem relaid_ok {t : SetTable} {es : Array Ent} (hn : es.size = 5) : ∃ (t' : SetTable) (order : Array Nat), t.relaid (es.map (·.1)) (SetTable.grown 5) = some (t', order) ∧ order.toList.Perm (List.range es.size) ∧ (order.filterMap (es[·]?)).size = es.size ∧
    TOk t' (order.filterMap (es[·]?)) ∧ t'.led = t.led ∧ t'.plain = t.plain := by
  obtain ⟨t', o, h1, h2, h2', h3, h4, h5, _⟩ := laid_ok (es := es) (m := 31) (.inr rfl) (by rw [hn]; decide) t.finger (t.movedTo 31) t.led t.plain
  exact ⟨t', o, h1, h2, h2', h3, h4, h5⟩
end S4
end
section
set_option maxRecDepth 100000
set_option maxHeartbeats 4000000
namespace S4
open PySem PySem.Spec PyProof.Rows
section
variable {prog : Program} {w : World} {A : Around} {E : Value → Shared → Prop} {s : Shared}
theorem items_int {ks : List Int} {vs : List Value} (h : ItemsAre (intKind prog w) ks vs) : ∀ v ∈ vs, ∃ n t, v = Value.int n t := by
  induction h with
  | nil => intro v hv; cases hv
  | cons h1 _ ih =>
    intro v hv
    rcases List.mem_cons.mp hv with rfl | hv
    · obtain ⟨t, e⟩ := Value.isInt_shape h1
      exact ⟨_, t, e⟩
    · exact ih v hv
theorem hbv_tuple {ks : List Int} {a : Addr} {Q : Bool → Shared → Prop} (hk : IsTupleKey (intKind prog w) s.heap ks a) (h : Q true s) : wpAny (model prog w) A (hashByValue 8 (.ref a)) Q E s := by
  have hT := hk.typeIs
  obtain ⟨o, items, n, ho, _, hd, hi⟩ := hk
  unfold hashByValue
  refine wpAny_bind (wpAny_specialOf hT F.slot_tuple_hash.lookup ?_)
  show wpAny _ _ (seqItems? (.ref a) >>= _) _ _ s
  refine wpAny_bind (wpAny_seqItems ho hd ?_)
  refine wpAny_bind ?_
  show wpAny _ _ (forIn items _ _) _ _ s
  rw [← Array.forIn_toList]
  refine wpAny_forIn_list _ (fun rest r s' => r.1 = none ∧ s' = s ∧ ∀ v ∈ rest, ∃ n t, v = Value.int n t) _ ?_ ?_ _ _ ⟨rfl, rfl, items_int hi⟩
  · rintro v rest r s' ⟨hr, rfl, hall⟩
    obtain ⟨i, t, rfl⟩ := hall v List.mem_cons_self
    refine wpAny_bind ?_
    unfold hashByValue
    refine wpAny_pure ?_
    simp only [Bool.not_true, Bool.false_eq_true, if_false]
    exact wpAny_pure ⟨rfl, rfl, fun u hu' => hall u (List.mem_cons_of_mem _ hu')⟩
  · rintro ⟨r1, r2⟩ s' ⟨hr, rfl, _⟩
    simp only at hr
    subst hr
    exact wpAny_pure h
theorem class_tuple {ks : List Int} {a : Addr} {Q : Bool → Shared → Prop} (hk : IsTupleKey (intKind prog w) s.heap ks a) (h : Q false s) : wpAny (model prog w) A (ofAClassStatement 8 (.ref a)) Q E s := by
  have hT := hk.typeIs
  obtain ⟨o, items, n, ho, _, hd, hi⟩ := hk
  unfold ofAClassStatement
  refine wpAny_bind (wpAny_typeOf hT ?_)
  simp only
  rw [if_pos (by decide)]
  refine wpAny_bind (wpAny_pure ?_)
  simp only [Bool.not_true, Bool.false_eq_true, if_false]
  refine wpAny_bind (wpAny_seqItems ho hd ?_)
  simp only
  refine wpAny_bind ?_
  show wpAny _ _ (forIn items _ _) _ _ s
  rw [← Array.forIn_toList]
  refine wpAny_forIn_list _ (fun rest r s' => r.1 = none ∧ s' = s ∧ ∀ v ∈ rest, ∃ n t, v = Value.int n t) _ ?_ ?_ _ _ ⟨rfl, rfl, items_int hi⟩
  · rintro v rest r s' ⟨hr, rfl, hall⟩
    obtain ⟨i, t, rfl⟩ := hall v List.mem_cons_self
    refine wpAny_bind ?_
    unfold ofAClassStatement
    refine wpAny_pure ?_
    simp only [Bool.false_eq_true, if_false]
    exact wpAny_pure ⟨rfl, rfl, fun u hu' => hall u (List.mem_cons_of_mem _ hu')⟩
  · rintro ⟨r1, r2⟩ s' ⟨hr, rfl, _⟩
    simp only at hr
    subst hr
    exact wpAny_pure h
theorem unseen {kx : List Int} {ax : Addr} (hx : IsTupleKey (intKind prog w) s.heap kx ax) {ys : List Value} (hy : ∀ y ∈ ys, ∃ k a, y = .ref a ∧ IsTupleKey (intKind prog w) s.heap k a) {Q : Bool → Shared → Prop} (h : Q false s) :
    wpAny (model prog w) A (searchCouldBeSeen (.ref ax) ys) Q E s := by
  unfold searchCouldBeSeen
  refine wpAny_bind ?_
  refine wpAny_forIn_list _ (fun rest r s' => r.1 = none ∧ s' = s ∧ ∀ v ∈ rest, ∃ k a, v = .ref a ∧ IsTupleKey (intKind prog w) s.heap k a) _ ?_ ?_ _ _ ⟨rfl, rfl, hy⟩
  · rintro v rest r s' ⟨hr, rfl, hall⟩
    obtain ⟨k, a, rfl, hk⟩ := hall v List.mem_cons_self
    have tl : ∀ u ∈ rest, ∃ k a, u = .ref a ∧ IsTupleKey (intKind prog w) s'.heap k a := fun u hu' => hall u (List.mem_cons_of_mem _ hu')
    simp only
    split
    · exact wpAny_pure ⟨rfl, rfl, tl⟩
    · refine wpAny_bind (wpAny_eqIsQuiet_tuple hx ?_)
      simp only [Bool.not_true, Bool.false_eq_true, if_false]
      refine wpAny_bind (wpAny_eqIsQuiet_tuple hk ?_)
      simp only [Bool.not_true, Bool.false_eq_true, if_false]
      refine wpAny_bind (class_tuple hx ?_)
      simp only [Bool.false_eq_true, if_false]
      refine wpAny_bind (class_tuple hk ?_)
      simp only [Bool.false_eq_true, if_false]
      exact wpAny_pure ⟨rfl, rfl, tl⟩
  · rintro ⟨r1, r2⟩ s' ⟨hr, rfl, _⟩
    simp only at hr
    subst hr
    exact wpAny_pure h
abbrev KA := List Int × Addr
def hsh (prog : Program) (w : World) (k : List Int) : Int := tupleKeyHash (intKind prog w) k
def ent (prog : Program) (w : World) (p : KA) : Ent := (hsh prog w p.1, .ref p.2)
def KeysOk (prog : Program) (w : World) (h : Heap) (L : List KA) : Prop := ∀ p ∈ L, IsTupleKey (intKind prog w) h p.1 p.2
structure SetAt (prog : Program) (w : World) (h : Heap) (a : Addr) (o : Obj) (es : Array Ent) (ep : Nat) (t : SetTable) (L : List KA) : Prop where
  get : h.get? a = some o
  ex : o.ExactSet
  dat : o.data = .set es ep t
  ok : TOk t es
  pln : t.plain = true
  led : t.led = !(w.params.followText "set-order")
  ents : es.toList = L.map (ent prog w)
  nd : (L.map (·.1)).Nodup
theorem SetAt.fits {h : Heap} {a : Addr} {o : Obj} {es : Array Ent} {ep : Nat} {t : SetTable} {L : List KA} (k : SetAt prog w h a o es ep t L) : t.fits es.size = true := k.ok.fits k.ok.le
theorem SetAt.ent_at {h : Heap} {a : Addr} {o : Obj} {es : Array Ent} {ep : Nat} {t : SetTable} {L : List KA} (k : SetAt prog w h a o es ep t L) (i : Nat) : es[i]? = (L[i]?).map (ent prog w) := by
  rw [← Array.getElem?_toList, k.ents, List.getElem?_map]
theorem SetAt.len {h : Heap} {a : Addr} {o : Obj} {es : Array Ent} {ep : Nat} {t : SetTable} {L : List KA} (k : SetAt prog w h a o es ep t L) : es.size = L.length := by
  rw [← Array.length_toList, k.ents, List.length_map]
theorem same_mem {t : SetTable} : t.sameMemory t.moves t.mask = some true := by
  unfold SetTable.sameMemory
  simp
theorem search_ok {a ax : Addr} {o : Obj} {es : Array Ent} {ep : Nat} {t : SetTable} {L : List KA} {kx : List Int} (hu : A.units < cLine) (k : SetAt prog w s.heap a o es ep t L) (hL : KeysOk prog w s.heap L) (hx : IsTupleKey (intKind prog w) s.heap kx ax)
    {K : Nat} (hK : t.slot (seqP t.mask (hsh prog w kx) K).j = .empty) (hlim : K < 10 * SetTable.turns t.mask) {Q : SetFound → Shared → Prop}
    (hyes : kx ∈ L.map (·.1) → Q (.there none) s)
    (hno : kx ∉ L.map (·.1) → ∀ n, t.slot (seqP t.mask (hsh prog w kx) n).j = .empty → (∀ m, m < n → ∃ i, t.slot (seqP t.mask (hsh prog w kx) m).j = .live i) → Q (.free (seqP t.mask (hsh prog w kx) n).j false) s) :
    ∀ (fuel n : Nat) (st : Option SetTable.Probe), st.getD (t.probeStart (hsh prog w kx)) = seqP t.mask (hsh prog w kx) n → n ≤ K → K - n < fuel →
      (∀ m, m < n → ∃ i, t.slot (seqP t.mask (hsh prog w kx) m).j = .live i ∧ ∀ p, L[i]? = some p → p.1 ≠ kx) → wpAny (model prog w) A (setSearchFrom a (.ref ax) (hsh prog w kx) true fuel st) Q E s
  | 0, n, st, e, h1, h2, h3 => by omega
  | fuel + 1, n, st, e, h1, h2, h3 => by
    have odd : t.gaveWay = false := by
      unfold SetTable.gaveWay
      rcases k.ok.msk with h | h <;> rw [h] <;> rfl
    unfold setSearchFrom
    refine wpAny_bind (wpAny_setState_of k.get k.dat k.fits ?_)
    simp only
    rw [odd]
    simp only [Bool.false_eq_true, if_false]
    rw [e]
    obtain ⟨n', g1, g2, g3, g4⟩ := go_spec k.ok.dum (fun i => (es[i]?.map (·.1)).getD 0) (hsh prog w kx) K hK (10 * SetTable.turns t.mask) n h1 (by omega)
    have stored : ∀ (i : Nat) (p : KA), L[i]? = some p → (es[i]?.map (·.1)).getD 0 = hsh prog w p.1 := fun i p hp => by
      rw [k.ent_at, hp]; rfl
    have before : ∀ m, m < n' → ∃ i, t.slot (seqP t.mask (hsh prog w kx) m).j = .live i ∧ ∀ p, L[i]? = some p → p.1 ≠ kx := fun m hm => by
      by_cases hmn : m < n
      · exact h3 m hmn
      · obtain ⟨i, q1, q2⟩ := g3 m (by omega) hm
        refine ⟨i, q1, fun p hp z => q2 ?_⟩
        rw [stored i p hp, z]
    rcases g4 with ⟨c1, c2⟩ | ⟨i, c1, c2, c3⟩
    · generalize hpr : t.probe _ (hsh prog w kx) (seqP t.mask (hsh prog w kx) n) = pr
      have ep : pr = some (.empty (seqP t.mask (hsh prog w kx) n').j none) := hpr.symm.trans c2
      subst ep
      simp only
      refine wpAny_pure (hno (fun hmem => ?_) n' c1 fun m hm => let ⟨i, q, _⟩ := before m hm; ⟨i, q⟩)
      obtain ⟨p, hp, rfl⟩ := List.mem_map.mp hmem
      obtain ⟨ip, hip⟩ := List.mem_iff_getElem?.mp hp
      have hes : es[ip]? = some (ent prog w p) := by rw [k.ent_at, hip]; rfl
      have hpl : ip < t.place.size := by rw [k.ok.siz]; exact (Array.getElem?_eq_some_iff.mp hes).1
      have hat : At t.place es t.place[ip] (ent prog w p) := ⟨ip, Array.getElem?_eq_getElem hpl, hes⟩
      obtain ⟨kk, w1, w2⟩ := k.ok.way _ _ hat
      have w1' : (seqP t.mask (hsh prog w p.1) kk).j = t.place[ip] := w1
      rcases Nat.lt_or_ge kk n' with l | l
      · obtain ⟨i, q1, q2⟩ := before kk l
        rw [w1', slot_at k.ok.ris (Array.getElem?_eq_getElem hpl)] at q1
        cases q1
        exact q2 p hip rfl
      · rcases Nat.eq_or_lt_of_le l with l | l
        · subst l
          rw [w1', slot_at k.ok.ris (Array.getElem?_eq_getElem hpl)] at c1
          cases c1
        · obtain ⟨e', i', q1, _⟩ := w2 n' l
          have q1' : t.place[i']? = some (seqP t.mask (hsh prog w p.1) n').j := q1
          rw [slot_at k.ok.ris q1'] at c1
          cases c1
    · generalize hpr : t.probe _ (hsh prog w kx) (seqP t.mask (hsh prog w kx) n) = pr
      have ep : pr = some (.candidate (seqP t.mask (hsh prog w kx) n').j i (seqP t.mask (hsh prog w kx) (n' + 1))) := hpr.symm.trans c3
      subst ep
      simp only
      have hi : i < es.size := by rw [← k.ok.siz]; exact (Array.getElem?_eq_some_iff.mp (slot_live c1)).1
      have hiL : i < L.length := by rw [← k.len]; exact hi
      have hp : L[i]? = some L[i] := List.getElem?_eq_getElem hiL
      have hes : es[i]? = some (ent prog w L[i]) := by rw [k.ent_at, hp]; rfl
      have hkey : IsTupleKey (intKind prog w) s.heap L[i].1 L[i].2 := hL _ (List.getElem_mem hiL)
      have hys : ∀ y ∈ List.map (fun x : Ent => x.snd) (Array.filter (fun x : Ent => x.fst == hsh prog w kx) es).toList, ∃ k a, y = .ref a ∧ IsTupleKey (intKind prog w) s.heap k a := fun y hy => by
        obtain ⟨e1, h1, rfl⟩ := List.mem_map.mp hy
        have h1' : e1 ∈ es.toList := by
          have := Array.mem_toList_iff.mp h1
          exact Array.mem_toList_iff.mpr (Array.mem_filter.mp this).1
        rw [k.ents] at h1'
        obtain ⟨p, hp, rfl⟩ := List.mem_map.mp h1'
        exact ⟨p.1, p.2, rfl, hL p hp⟩
      split
      case' isTrue =>
        refine wpAny_bind (unseen hx hys ?_)
        simp only [Bool.false_eq_true, if_false]
      all_goals
        rw [hes]
        simp only [ent]
        refine wpAny_bind (wpAny_holding (wpAny_eqBool_tuple hu hkey hx ?_))
        refine wpAny_bind (wpAny_setState_of k.get k.dat k.fits ?_)
        by_cases hq : L[i].1 = kx
        · rw [decide_eq_true hq]
          simp only [Bool.and_self, if_true]
          exact wpAny_pure (hyes (List.mem_map.mpr ⟨_, List.getElem_mem hiL, hq⟩))
        · rw [decide_eq_false hq]
          simp only [Bool.and_false, Bool.false_eq_true, if_false]
          rw [same_mem]
          simp only [if_true]
          rw [c1]
          simp only
          rw [hes]
          simp only [ent]
          refine wpAny_bind (wpAny_isSame_ref_self (wpAny_bind (wpAny_pure ?_)))
          simp only [if_true]
          refine search_ok hu k hL hx hK hlim hyes hno fuel (n' + 1) _ rfl ?_ ?_ fun m hm => ?_
          · have : n' ≠ K := fun z => by subst z; rw [hK] at c1; cases c1
            omega
          · have : n' ≠ K := fun z => by subst z; rw [hK] at c1; cases c1
            omega
          · by_cases hmn : m < n'
            · exact before m hmn
            · have : m = n' := by omega
              subst this
              exact ⟨i, c1, fun p hp' => by rw [hp] at hp'; cases hp'; exact hq⟩
end
end S4
end
section
set_option maxRecDepth 100000
set_option maxHeartbeats 4000000
namespace S4
open PySem PySem.Spec PyProof.Rows
def AddL (L : List KA) (p : KA) (L' : List KA) : Prop := (p.1 ∈ L.map (·.1) ∧ L' = L) ∨ (p.1 ∉ L.map (·.1) ∧ L'.Perm (p :: L))
section
variable {prog : Program} {w : World} {A : Around} {E : Value → Shared → Prop} {s : Shared}
theorem put_get {h : Heap} {a : Addr} {o : Obj} {es es' : Array Ent} {ep : Nat} {t t' : SetTable} (ho : h.get? a = some o) (hd : o.data = .set es ep t) : (h.update a (Obj.putSet es' t')).get? a = some { o with data := .set es' (ep + 1) t' } := by
  have := Heap.get?_update_self (Obj.putSet es' t') ho (by rw [putSet_of es' t' hd]; rfl)
  rw [putSet_of es' t' hd] at this; exact this
theorem add_ok {a ax : Addr} {o : Obj} {es : Array Ent} {ep : Nat} {t : SetTable} {L : List KA} {kx : List Int} (hu : A.units < cLine) (k : SetAt prog w s.heap a o es ep t L) (hL : KeysOk prog w s.heap L) (hx : IsTupleKey (intKind prog w) s.heap kx ax)
    (hfew : L.length < 18) {Q : Bool → Shared → Prop}
    (h : ∀ b h' o' es' ep' t' L', SetAt prog w h' a o' es' ep' t' L' → Heap.SameBut a s.heap h' → AddL L (kx, ax) L' → Q b { s with heap := h' }) :
    wpAny (model prog w) A (setAddHashed a (.ref ax) (hsh prog w kx)) Q E s := by
  obtain ⟨j0, hj0, hf0⟩ := some_free k.ok.ris k.ok.dum (by rw [k.ok.siz]; exact k.ok.le)
  obtain ⟨K, hK1, hK2⟩ := cover k.ok.msk (hsh prog w kx) j0 hj0
  have hlim : 10 * SetTable.turns t.mask ≤ 100000 := by
    unfold SetTable.turns
    rcases k.ok.msk with z | z <;> rw [z] <;> decide
  unfold setAddHashed setAddHashedIn
  refine wpAny_holding (wpAny_bind (wpAny_setState_of k.get k.dat k.fits ?_))
  have hsc : byScan (.ref ax) es = false := by simp [byScan, Value.scannable]
  simp only [hsc, Bool.false_eq_true, if_false]
  unfold setSearch
  refine wpAny_bind ?_
  refine search_ok hu k hL hx (by rw [hK2]; exact hf0) hK1 ?_ ?_ 100000 0 none rfl (Nat.zero_le _) (by omega) (fun m hm => by omega)
  · intro hmem
    simp only
    refine wpAny_pure ?_
    have e : s = { s with heap := s.heap } := by cases s; rfl
    rw [e]
    exact h _ s.heap o es ep t L k (Heap.SameBut.refl a s.heap) (.inl ⟨hmem, rfl⟩)
  · intro hmem n hn hb
    simp only
    refine wpAny_bind (wpAny_setState_of k.get k.dat k.fits ?_)
    generalize hj : (seqP t.mask (hsh prog w kx) n).j = j at hn
    have hjle : j ≤ t.mask := by
      rw [← hj]
      rcases Nat.eq_zero_or_pos n with z | z
      · subst z
        show SetTable.bits _ % (t.mask + 1) ≤ t.mask
        have := Nat.mod_lt (SetTable.bits (hsh prog w kx)) (show t.mask + 1 > 0 by omega)
        omega
      · exact seqP_le _ _ _ k.ok.msk
    obtain ⟨p1, p2, p3, p4⟩ := put_ok (e := ent prog w (kx, ax)) (K := n) k.ok.toTPre hjle hn hj fun m hm => by
      obtain ⟨i, q⟩ := hb m hm
      obtain ⟨e', _, q'⟩ := k.ok.toTPre.at_of (slot_live q)
      exact ⟨e', q'⟩
    generalize hP : t.put j = P at p1 p2 p3 p4 ⊢
    obtain ⟨t1, pp⟩ := P
    simp only at p1 p2 p3 p4 ⊢
    have p1 : TPre t1 (SetTable.insertAt es pp (hsh prog w kx, Value.ref ax)) := p1
    rw [if_pos (by rw [p4]; exact k.pln)]
    refine wpAny_bind (hbv_tuple hx ?_)
    simp only [if_true]
    have hsz1 : (SetTable.insertAt es pp (hsh prog w kx, Value.ref ax)).size = es.size + 1 := ins_size _ _ _
    have hlen := k.len
    refine wpAny_bind (wpAny_storeSet_of k.get k.dat ?_ (by rw [hsz1, sizeLine_eq]; omega))
    have g1 := put_get (es' := SetTable.insertAt es pp (hsh prog w kx, Value.ref ax)) (t' := t1) k.get k.dat
    have sb1 := Heap.SameBut.update s.heap a (Obj.putSet (SetTable.insertAt es pp (hsh prog w kx, Value.ref ax)) t1)
    have ents1 : (SetTable.insertAt es pp (hsh prog w kx, Value.ref ax)).toList = (L.take pp ++ (kx, ax) :: L.drop pp).map (ent prog w) := by
      rw [SetTable.toList_insertAt, k.ents, List.map_append, List.map_cons, List.map_take, List.map_drop]; rfl
    have perm1 : (L.take pp ++ (kx, ax) :: L.drop pp).Perm ((kx, ax) :: L) := by
      have := List.perm_middle (a := (kx, ax)) (l₁ := L.take pp) (l₂ := L.drop pp)
      rwa [List.take_append_drop] at this
    have nd1 : ((kx :: L.map (·.1))).Nodup := List.nodup_cons.mpr ⟨hmem, k.nd⟩
    have ndP : ∀ L' : List KA, L'.Perm ((kx, ax) :: L) → (L'.map (·.1)).Nodup := fun L' hp => (List.Perm.nodup_iff (hp.map (fun p : KA => p.1))).mpr nd1
    by_cases hful : t1.tooFull = true
    · rw [hful]
      simp only [Bool.not_false, Bool.and_self, if_true]
      have hfull : (es.size + 1) * 5 ≥ t.mask * 3 := by
        unfold SetTable.tooFull SetTable.fill at hful
        rw [p1.siz, p1.dum, p2, hsz1] at hful
        simpa using hful
      have h5 : es.size + 1 = 5 := by
        have := k.ok.few
        rcases k.ok.msk with z | z <;> rw [z] at hfull this <;> omega
      obtain ⟨t2, ord, r1, r2, r3, r4, r5, r6⟩ := relaid_ok (t := t1) (es := SetTable.insertAt es pp (hsh prog w kx, Value.ref ax)) (by rw [hsz1]; exact h5)
      have fit1 : t1.fits (SetTable.insertAt es pp (hsh prog w kx, Value.ref ax)).size = true := p1.fits (by
        rw [hsz1, p2]
        have := k.ok.few
        rcases k.ok.msk with z | z <;> rw [z] at this ⊢ <;> omega)
      unfold setRelay
      refine wpAny_bind (wpAny_bind (wpAny_setState_of (s := { s with heap := s.heap.update a (Obj.putSet (SetTable.insertAt es pp (hsh prog w kx, Value.ref ax)) t1) }) g1 rfl fit1 ?_))
      simp only
      rw [h5]
      rw [if_neg (by rw [sizeLine_eq]; decide)]
      rw [r1]
      refine wpAny_bind ?_
      have step : ∀ (R : Array Ent × SetTable → Shared → Prop) (s1 : Shared), R (ord.filterMap ((SetTable.insertAt es pp (hsh prog w kx, Value.ref ax))[·]?), t2) s1 →
          wpAny (model prog w) A (if ((ord.filterMap ((SetTable.insertAt es pp (hsh prog w kx, Value.ref ax))[·]?)).size != (SetTable.insertAt es pp (hsh prog w kx, Value.ref ax)).size) = true
            then (do unsupported "internal:set-table-lost-an-element"; pure (ord.filterMap ((SetTable.insertAt es pp (hsh prog w kx, Value.ref ax))[·]?), t2)) else pure (ord.filterMap ((SetTable.insertAt es pp (hsh prog w kx, Value.ref ax))[·]?), t2)) R E s1 := fun R s1 hR => by
        rw [if_neg (by rw [r3]; simp)]
        exact wpAny_pure hR
      refine step _ _ ?_
      refine wpAny_storeSet_of (s := { s with heap := s.heap.update a (Obj.putSet (SetTable.insertAt es pp (hsh prog w kx, Value.ref ax)) t1) }) g1 rfl ?_ (by rw [r3, hsz1, sizeLine_eq]; omega)
      have ents2 : (ord.filterMap ((SetTable.insertAt es pp (hsh prog w kx, Value.ref ax))[·]?)).toList = (ord.toList.filterMap ((L.take pp ++ (kx, ax) :: L.drop pp)[·]?)).map (ent prog w) := by
        rw [Array.toList_filterMap, List.map_filterMap]
        refine fm_congr fun i _ => ?_
        rw [← Array.getElem?_toList, ents1, List.getElem?_map]
      have perm2 : (ord.toList.filterMap ((L.take pp ++ (kx, ax) :: L.drop pp)[·]?)).Perm ((kx, ax) :: L) := by
        refine (r2.filterMap _).trans ?_
        have e1 : (SetTable.insertAt es pp (hsh prog w kx, Value.ref ax)).size = (L.take pp ++ (kx, ax) :: L.drop pp).length := by
          rw [← Array.length_toList, ents1, List.length_map]
        rw [e1, List.filterMap_getElem?_range_length]
        exact perm1
      refine wpAny_pure (h _ _ _ _ _ _ _ ⟨put_get g1 rfl, k.ex, rfl, r4, by rw [r6, p4]; exact k.pln, by rw [r5, p3]; exact k.led, ents2, ndP _ perm2⟩ (sb1.trans (Heap.SameBut.update _ a _)) (.inr ⟨hmem, perm2⟩))
    · simp only [hful, Bool.and_false, Bool.false_eq_true, if_false]
      refine wpAny_pure ?_
      refine h _ _ _ _ _ _ _ ⟨g1, k.ex, rfl, ⟨p1, ?_⟩, by rw [p4]; exact k.pln, by rw [p3]; exact k.led, ents1, ndP _ perm1⟩ sb1 (.inr ⟨hmem, perm1⟩)
      unfold SetTable.tooFull SetTable.fill at hful
      rw [p1.siz, p1.dum] at hful
      have hful' : ¬ (SetTable.insertAt es pp (hsh prog w kx, Value.ref ax)).size * 5 ≥ t1.mask * 3 := by simpa using hful
      exact Nat.lt_of_not_ge hful'
end
end S4
end
section
set_option maxRecDepth 100000
set_option maxHeartbeats 4000000
namespace S4
open PySem PySem.Spec PyProof.Rows
theorem key_at {prog : Program} {w : World} {h h' : Heap} {k : List Int} {a : Addr} (x : IsTupleKey (intKind prog w) h k a) (e : ∀ o, h.get? a = some o → h'.get? a = some o) : IsTupleKey (intKind prog w) h' k a :=
  let ⟨o, its, n, ho, r⟩ := x
  ⟨o, its, n, e o ho, r⟩
theorem SetAt.at {prog : Program} {w : World} {h h' : Heap} {a : Addr} {o : Obj} {es : Array Ent} {ep : Nat} {t : SetTable} {L : List KA} (k : SetAt prog w h a o es ep t L) (e : ∀ o, h.get? a = some o → h'.get? a = some o) : SetAt prog w h' a o es ep t L :=
  { k with get := e o k.get }
structure Folded (kv L : List KA) : Prop where
  nd : (L.map (·.1)).Nodup
  mem : ∀ k, k ∈ L.map (·.1) ↔ k ∈ kv.map (·.1)
  sub : ∀ p ∈ L, p ∈ kv
  len : L.length ≤ kv.length
theorem Folded.nil : Folded [] [] := ⟨.nil, fun _ => .rfl, fun _ h => h, Nat.le_refl _⟩
theorem Folded.add {kv L L' : List KA} {p : KA} (f : Folded kv L) (h : AddL L p L') : Folded (kv ++ [p]) L' := by
  rcases h with ⟨h1, rfl⟩ | ⟨h1, h2⟩
  · refine ⟨f.nd, fun k => ?_, fun q hq => List.mem_append_left _ (f.sub q hq), by have := f.len; simp; omega⟩
    rw [f.mem, List.map_append, List.mem_append]
    refine ⟨.inl, fun z => z.elim id fun z => ?_⟩
    have : k = p.1 := by simpa using z
    rw [this]; exact (f.mem _).mp h1
  · have hm := h2.map (fun q : KA => q.1)
    refine ⟨(List.Perm.nodup_iff hm).mpr (List.nodup_cons.mpr ⟨h1, f.nd⟩), fun k => ?_, fun q hq => ?_, by have := f.len; rw [h2.length_eq]; simp; omega⟩
    · rw [hm.mem_iff, List.map_cons, List.mem_cons, f.mem, List.map_append, List.mem_append]
      constructor
      · rintro (rfl | z)
        · exact .inr (by simp)
        · exact .inl z
      · rintro (z | z)
        · exact .inr z
        · exact .inl (by simpa using z)
    · rcases List.mem_cons.mp (h2.mem_iff.mp hq) with rfl | z
      · exact List.mem_append_right _ (List.mem_singleton.mpr rfl)
      · exact List.mem_append_left _ (f.sub q z)
section
variable {prog : Program} {w : World} {A : Around} {R : Result → Shared → Prop} {I : Addr} {fp wr : List Addr} {G : Array GenState → Array GenState → Prop} {n : Nat} {P : Nat → Value → Prop} {St : Nat → Shared → Prop}
theorem loop_ok (W : WalksS prog w A.in1 I fp wr G n P St) {S : Addr} (hSf : S ∉ fp) (kv : Nat → KA) (hval : ∀ i v, P i v → v = .ref (kv i).2) (hn : n ≤ 18) (hu : A.in1.units < cLine) (hkw : ∀ i, i < n → (kv i).2 ∉ S :: wr) :
    ∀ (c i : Nat) (s : Shared), n - i = c → i ≤ n → St i s → (∀ j, j < n → IsTupleKey (intKind prog w) s.heap (kv j).1 (kv j).2) → ∀ o es ep t L, SetAt prog w s.heap S o es ep t L → Folded ((List.range i).map kv) L →
      (∀ s', Moved (S :: wr) G s s' → ∀ o es ep t L, SetAt prog w s'.heap S o es ep t L → Folded ((List.range n).map kv) L → R (.ok (.ret .none)) s') →
      codeAny (model prog w) A (.builtin "set.update.loop" ⟨[.ref S, .ref I], []⟩) R s := by
  have hSw : S ∉ wr := fun h => hSf (W.sub _ h)
  have hsub : ∀ b ∈ wr, b ∈ S :: wr := fun b hb => List.mem_cons_of_mem _ hb
  intro c
  induction c with
  | zero =>
    intro i s hc hi hst hk o es ep t L hS hF hR
    obtain rfl : i = n := by omega
    refine codeAny_builtin F.entry_set_update_loop ?_
    rw [Around.under_plainId F.plain_set_update_loop _]
    show wpAny _ A.in1 (pyNext (.ref I) >>= _) _ _ s
    refine wpAny_bind (W.done s _ _ hst fun s' hm => ?_)
    show wpAny _ A.in1 (ret Value.none) _ _ s'
    exact wpAny_pure (hR s' (hm.mono hsub) o es ep t L (hS.at fun o' e => hm.heap S o' hSw e) hF)
  | succ c ih =>
    intro i s hc hi hst hk o es ep t L hS hF hR
    have hlt : i < n := by omega
    refine codeAny_builtin F.entry_set_update_loop ?_
    rw [Around.under_plainId F.plain_set_update_loop _]
    show wpAny _ A.in1 (pyNext (.ref I) >>= _) _ _ s
    refine wpAny_bind (W.item i s _ _ hlt hst fun v s' hP hst' hm => ?_)
    cases hval i v hP
    have hS' := hS.at (h' := s'.heap) fun o' e => hm.heap S o' hSw e
    have hk' : ∀ j, j < n → IsTupleKey (intKind prog w) s'.heap (kv j).1 (kv j).2 := fun j hj => key_at (hk j hj) fun o' e => hm.heap _ o' (fun z => hkw j hj (hsub _ z)) e
    show wpAny _ A.in1 (holding [Value.ref (kv i).2] (setAdd S (.ref (kv i).2)) >>= _) _ _ s'
    refine wpAny_bind (wpAny_holding ?_)
    unfold setAdd
    refine wpAny_holding ?_
    refine wpAny_bind (wpAny_pyHash_tuple hu (hk' i hlt) ?_)
    have hLn : L.length ≤ i := by have := hF.len; simpa using this
    have hKL : KeysOk prog w s'.heap L := fun p hp => by
      obtain ⟨j, hj, rfl⟩ := List.mem_map.mp (hF.sub p hp)
      exact hk' j (Nat.lt_trans (List.mem_range.mp hj) hlt)
    refine add_ok (s := { s' with toks := s'.toks + ((kv i).1.length + 1) }) hu hS' hKL (hk' i hlt) (by omega) fun b h' o' es' ep' t' L' hS2 hsb hA => ?_
    have hF' : Folded ((List.range (i + 1)).map kv) L' := by
      rw [List.range_succ, List.map_append]
      exact hF.add hA
    refine wpAny_pure ⟨plainId_quiet F.plain_set_update_loop _, ih (i + 1) _ (by omega) hlt (W.frame _ s' _ _ hst' (Nat.le_add_right _ _) fun b hb o e => ?_) (fun j hj => key_at (hk' j hj) fun o e => ?_) _ _ _ _ _ hS2 hF' fun s'' hm'' => ?_⟩
    · rw [hsb.2 b (fun h : b = S => hSf (by rw [← h]; exact hb))]; exact e
    · rw [hsb.2 _ (fun h => hkw j hj (by rw [h]; exact List.mem_cons_self))]; exact e
    · refine hR s'' (Moved.trans W.gtrans ((hm.mono hsub).then_heap (Nat.le_add_right _ _) fun b o hb e => ?_) hm'')
      rw [hsb.2 b (fun h : b = S => hb (by rw [h]; exact List.mem_cons_self))]; exact e
end
section
variable {prog : Program} {w : World} {A : Around} {E : Value → Shared → Prop} {s : Shared}
theorem sub_tup_set : isSubtype (.type "tuple") (.type "set") = pure false := by rw [isSubtype_type]; kernel_rfl
theorem sub_tup_fset : isSubtype (.type "tuple") (.type "frozenset") = pure false := by rw [isSubtype_type]; kernel_rfl
def setObj0 (led : Bool) : Obj := { cls := .type "set", dict := none, data := .set #[] 0 (.fresh 0 0 led) }
def ledOf (w : World) : Bool := !(w.params.followText "set-order")
def Src (h : Heap) (x : Addr) (items : Array Value) : Prop := h.IsList x items ∨ h.IsTuple x items
theorem Src.at {h h' : Heap} {x : Addr} {items : Array Value} (r : Src h x items) (e : ∀ o, h.get? x = some o → h'.get? x = some o) : Src h' x items := by
  rcases r with ⟨o, ho, r⟩ | ⟨o, ho, r⟩
  · exact .inl ⟨o, e o ho, r⟩
  · exact .inr ⟨o, e o ho, r⟩
theorem Src.lt {h : Heap} {x : Addr} {items : Array Value} (r : Src h x items) : x < h.objs.size := by
  rcases r with ⟨o, ho, _⟩ | ⟨o, ho, _⟩ <;> exact Heap.lt_size ho
theorem iter_src {x : Addr} {items : Array Value} (r : Src s.heap x items) {Q : Value → Shared → Prop}
    (h : ∀ (ob : Obj) (St : Nat → Heap → Prop), (∀ A' : Around, A'.handled = none → Walks prog w A' s.heap.objs.size [s.heap.objs.size, x] [s.heap.objs.size] items.size (fun i v => items[i]? = some v) St) → St 0 (s.heap.push ob) →
      Q (.ref s.heap.objs.size) { s with heap := s.heap.push ob }) : wpAny (model prog w) A (pyIter (.ref x)) Q E s := by
  have hne : x ≠ s.heap.objs.size := Nat.ne_of_lt r.lt
  rcases r with r | r
  · refine wpAny_pyIter_list r (h _ _ (fun A' hh => Walks.list hh s.heap.objs.size x hne items) ⟨⟨_, Heap.get?_push_size _ rfl, rfl, rfl⟩, r.push _⟩)
  · refine wpAny_pyIter_tuple r (h _ _ (fun A' hh => Walks.tuple hh s.heap.objs.size x hne items) ⟨⟨_, Heap.get?_push_size _ rfl, rfl, rfl⟩, ?_⟩)
    obtain ⟨o, ho, q⟩ := r
    exact ⟨o, Heap.get?_push_of_some _ ho, q⟩
theorem new1 (a : Value) {Q1 : Value → Shared → Prop} (h : Q1 (.ref s.heap.objs.size) { s with heap := s.heap.push (setObj0 (ledOf w)) }) :
    codeAny (model prog w) A (.call (.builtin "set.__new__") ⟨[.type "set", a], []⟩) (wants Q1 E) s := by
  refine codeAny_of_tree ?_
  show wpAny _ A.in1 (do checkBuiltinCall "set.__new__" ⟨[.type "set", a], []⟩; again (.builtin "set.__new__" ⟨[.type "set", a], []⟩)) _ _ s
  refine wpAny_bind (wpAny_of_eq (F.newCall_set_1 a) (wpAny_pure ⟨plainId_quiet F.plain_set_new _, codeAny_builtin F.entry_set_new ?_⟩))
  rw [Around.under_plainId F.plain_set_new _]
  unfold Builtin.«set.__new__» Builtin.Frozenset.newClass
  have hsub := sub_set_self
  obtain ⟨hp, g, d, tk, os⟩ := s
  dsimp only
  wp_walk
  refine wpAny_askSetting (wpAny_pure ?_)
  dsimp only
  simp only [newObj]
  exact wpAny_bind (wpAny_alloc (wpAny_pure (wpAny_pure h)))
theorem kind_src {x : Addr} {items : Array Value} (r : Src s.heap x items) : ∃ T, s.TypeIs (.ref x) T ∧ isSubtype (.type T) (.type "set") = pure false ∧ isSubtype (.type T) (.type "frozenset") = pure false ∧ (Value.type T == Value.type "dict") = false := by
  rcases r with ⟨o, ho, hc, _⟩ | ⟨o, ho, hc, _⟩
  · exact ⟨"list", ⟨o, ho, hc⟩, F.sub_list_set, F.sub_list_frozenset, by decide⟩
  · exact ⟨"tuple", ⟨o, ho, hc⟩, sub_tup_set, sub_tup_fset, by decide⟩
set_option maxHeartbeats 8000000 in
theorem set_of {x : Addr} {items : Array Value} (hh : A.handled = none) (hu : A.in1.in1.in1.units < cLine) (r : Src s.heap x items) (kv : Nat → KA) (hval : ∀ (i : Nat) (v : Value), items[i]? = some v → v = .ref (kv i).2) (hn : items.size ≤ 18)
    (hk : ∀ j, j < items.size → IsTupleKey (intKind prog w) s.heap (kv j).1 (kv j).2) {Q : Value → Shared → Prop}
    (h : ∀ (h' : Heap) (tk : Nat) o es ep t L, SetAt prog w h' s.heap.objs.size o es ep t L → Folded ((List.range items.size).map kv) L → (∀ b o, b < s.heap.objs.size → s.heap.get? b = some o → h'.get? b = some o) →
      Q (.ref s.heap.objs.size) { s with heap := h', toks := tk }) : wpAny (model prog w) A (call (.type "set") [.ref x]) Q E s := by
  obtain ⟨c, tl, hmro⟩ := F.called_set.mro
  have hmade := F.called_set.made
  have hsub := F.called_set.sub
  refine wpAny_call (codeAny_of_tree ?_)
  show wpAny _ _ (callAny (.type "set") _) _ _ _
  refine wpAny_pure ⟨Code.quiet_builtin _ (by decide +kernel), codeAny_builtin F.entry_type_call ?_⟩
  rw [Around.under_plain (weight_type_call_type "set" [.ref x] []) rfl]
  have h1 := F.called_set.notType
  have h2 := F.called_set.canCreate
  have hct := F.typeCall_set_1 (.ref x)
  repeat (any_goals (first | assumption | wp_step))
  refine codeAny_mono (new1 (.ref x) (E := E) (Q1 := fun obj s1 => obj = .ref s.heap.objs.size ∧ s1 = { s with heap := s.heap.push (setObj0 (ledOf w)) }) ⟨rfl, rfl⟩) fun rr s1 hr => ?_
  cases rr with
  | error e => exact hr
  | ok fl =>
    cases fl with
    | ret obj =>
      obtain ⟨rfl, rfl⟩ := hr
      have hS : (s.heap.push (setObj0 (ledOf w))).get? s.heap.objs.size = some (setObj0 (ledOf w)) := Heap.get?_push_size _ rfl
      have hT : Shared.TypeIs { s with heap := s.heap.push (setObj0 (ledOf w)) } (.ref s.heap.objs.size) "set" := ⟨_, hS, rfl⟩
      have hli := F.called_set.init.lookup
      have hbi := F.called_set.init.bind (.ref s.heap.objs.size)
      repeat (any_goals (first | assumption | wp_step))
      refine codeAny_mono (codeAny_call_builtin (R := wants (fun r s2 => r = .none ∧ Q (.ref s.heap.objs.size) s2) E) F.called_set.init.plain F.entry_set_init (check_set_init_1 hT ?_)) fun r2 s2 hr2 => ?_
      · have r1 : Src (s.heap.push (setObj0 (ledOf w))) x items := r.at fun o e => Heap.get?_push_of_some _ e
        obtain ⟨Tx, hTx, hs1, hs2, hd⟩ := kind_src (s := { s with heap := s.heap.push (setObj0 (ledOf w)) }) r1
        unfold Builtin.«set.__init__» noKeywords Builtin.Frozenset.updateFrom
        generalize hPI : pyIter = PI
        have hTs := hT
        unfold setObj0 at hS
        wp_walk
        subst hPI
        refine iter_src (s := { s with heap := s.heap.push (setObj0 (ledOf w)) }) r1 fun ob St W hst => ?_
        refine wpAny_bind (wpAny_runValue ?_)
        have hxS : x < s.heap.objs.size := r.lt
        have hsz : (s.heap.push (setObj0 (ledOf w))).objs.size = s.heap.objs.size + 1 := Heap.size_push _ _
        have hSf : s.heap.objs.size ∉ [(s.heap.push (setObj0 (ledOf w))).objs.size, x] := by
          rw [hsz]
          simp only [List.mem_cons, List.not_mem_nil, or_false, not_or]
          exact ⟨Nat.ne_of_lt (Nat.lt_succ_self _), Nat.ne_of_gt hxS⟩
        have hh3 : A.in1.in1.in1.handled = none := by simp [hh]
        have up : ∀ b o, s.heap.get? b = some o → ((s.heap.push (setObj0 (ledOf w))).push ob).get? b = some o := fun b o e => Heap.get?_push_of_some _ (Heap.get?_push_of_some _ e)
        have hklt : ∀ j, j < items.size → (kv j).2 < s.heap.objs.size := fun j hj => let ⟨_, _, _, e, _⟩ := hk j hj; Heap.lt_size e
        have S0 : SetAt prog w ((s.heap.push (setObj0 (ledOf w))).push ob) s.heap.objs.size (setObj0 (ledOf w)) #[] 0 (.fresh 0 0 (ledOf w)) [] :=
          ⟨Heap.get?_push_of_some _ (Heap.get?_push_size _ rfl), ⟨rfl, rfl, rfl⟩, rfl, fresh_ok _, rfl, rfl, rfl, .nil⟩
        refine loop_ok ((W _ hh3).toS) hSf kv hval hn hu (fun j hj => ?_) (items.size - 0) 0 _ rfl (Nat.zero_le _) hst (fun j hj => key_at (hk j hj) fun o e => up _ o e) _ _ _ _ _ S0 .nil fun s' hm o es ep t L hS' hF => ?_
        · rw [hsz]
          have := hklt j hj
          simp only [List.mem_cons, List.not_mem_nil, or_false, not_or]
          exact ⟨Nat.ne_of_lt this, Nat.ne_of_lt (Nat.lt_succ_of_lt this)⟩
        · obtain ⟨h', g', d', tk', os'⟩ := s'
          have eg : g' = s.gens := hm.gens
          have ed : d' = s.drawn := hm.drawn
          have eo : os' = s.os := hm.os
          subst eg ed eo
          show wpAny _ _ _ _ _ _
          refine wpAny_pure ?_
          show wpAny _ _ (ret Value.none) _ _ _
          refine wpAny_pure ⟨rfl, h h' tk' o es ep t L hS' hF fun b o hb e => ?_⟩
          refine hm.heap b o ?_ (up b o e)
          rw [hsz]
          simp only [List.mem_cons, List.not_mem_nil, or_false, not_or]
          exact ⟨Nat.ne_of_lt hb, Nat.ne_of_lt (Nat.lt_succ_of_lt hb)⟩
      · cases r2 with
        | error e => exact hr2
        | ok fl2 =>
          cases fl2 with
          | ret rv =>
            obtain ⟨rfl, hq⟩ := hr2
            repeat (any_goals (first | assumption | wp_step))
          | _ => exact hr2.elim
    | _ => exact hr.elim
end
end S4
end
section
set_option maxRecDepth 100000
set_option maxHeartbeats 4000000
namespace S4
open PySem PySem.Spec PyProof.Rows
theorem erase_perm {α : Type} : ∀ {l : List α} {i : Nat} {x : α}, l[i]? = some x → l.Perm (x :: l.eraseIdx i)
  | [], _, _, h => by simp at h
  | y :: l, 0, x, h => by simp at h; subst h; exact .refl _
  | y :: l, i + 1, x, h => by
    have := erase_perm (l := l) (i := i) (x := x) (by simpa using h)
    rw [List.eraseIdx_cons_succ]
    exact (List.Perm.cons y this).trans (.swap _ _ _)
theorem pick_go {α : Type} (next : Nat → Nat) : ∀ (fuel k : Nat) (left : List α) (out : Array α), left.length = fuel → (pickOrder.go next fuel k left out).toList.Perm (out.toList ++ left)
  | 0, k, left, out, h => by
    have : left = [] := List.length_eq_zero_iff.mp h
    subst this
    unfold pickOrder.go
    simp
  | fuel + 1, k, left, out, h => by
    unfold pickOrder.go
    have hlt : next k % left.length < left.length := Nat.mod_lt _ (by omega)
    have hq : left[next k % left.length]? = some left[next k % left.length] := List.getElem?_eq_getElem hlt
    rw [hq]
    simp only
    refine (pick_go next fuel (k + 1) _ _ (by rw [List.length_eraseIdx_of_lt hlt]; omega)).trans ?_
    rw [Array.toList_push, List.append_assoc]
    exact List.Perm.append_left _ (erase_perm hq).symm
theorem pick_perm {α : Type} (next : Nat → Nat) (xs : Array α) : (pickOrder next xs).toList.Perm xs.toList := by
  have := pick_go next xs.size 0 xs.toList #[] (by simp)
  simpa [pickOrder] using this
def walkL (w : World) (a : Addr) (ep : Nat) (es : Array Ent) : Array Ent := if w.params.followText "set-order" = true then pickOrder (w.params.setOrder a ep) es else es
theorem walk_perm (w : World) (a : Addr) (ep : Nat) (es : Array Ent) : (walkL w a ep es).toList.Perm es.toList := by
  unfold walkL
  split
  · exact pick_perm _ _
  · exact .refl _
theorem walk_size (w : World) (a : Addr) (ep : Nat) (es : Array Ent) : (walkL w a ep es).size = es.size := by
  have := (walk_perm w a ep es).length_eq
  simpa using this
theorem slot_si_next : Slot "set_iterator" "__next__" "set_iterator.__next__" :=
  .of (owner := "set_iterator") (n := "__next__") (by rw [typeLookup_type, builtinLookup_eq_fast]; kernel_rfl) (by decide +kernel) (by decide +kernel) (by decide +kernel)
    (by first | exact .inl (by decide +kernel) | exact .inr (by decide +kernel)) (by rw [isSubtype_type]; kernel_rfl)
theorem entry_si_next : entryFor table "set_iterator.__next__" = some Builtin.«set_iterator.__next__» := entryFor_of_fast (by kernel_rfl)
theorem args_si_next (a : Value) : argsOk "set_iterator.__next__" ⟨[a], []⟩ := by unfold argsOk; kernel_rfl
theorem entry_set_iter : entryFor table "set.__iter__" = some Builtin.«frozenset.__iter__» :=
  entryFor_alias (id' := "frozenset.__iter__") (by kernel_rfl) rfl (by decide +kernel) (by kernel_rfl)
section
variable {prog : Program} {w : World} {A : Around} {E : Value → Shared → Prop} {s : Shared}
def slotOf (w : World) (t : SetTable) (i : Nat) : Nat := if w.params.followText "set-order" = true then 0 else match i with
  | 0 => 0
  | i + 1 => t.place.getD i 0 + 1
def iterObj (w : World) (a : Addr) (t : SetTable) (sz ep i : Nat) (tk : Tok) : Array Value := #[.int (slotOf w t i) 0, .int i 0, .ref a, .int sz 0, .int ep 0]
structure IterAt (w : World) (h : Heap) (I a : Addr) (t : SetTable) (sz ep i : Nat) : Prop where
  ex : ∃ o, h.get? I = some o ∧ o.cls = .type "set_iterator" ∧ o.data = .fields #[.int (slotOf w t i) 0, .int i 0, .ref a, .int sz 0, .int ep 0]
theorem IterAt.typeIs {I a : Addr} {t : SetTable} {sz ep i : Nat} (k : IterAt w s.heap I a t sz ep i) : s.TypeIs (.ref I) "set_iterator" :=
  let ⟨o, ho, hc, _⟩ := k.ex
  ⟨o, ho, hc⟩
theorem next_ok {a : Addr} {o : Obj} {es : Array Ent} {ep : Nat} {t : SetTable} {L : List KA} (k : SetAt prog w s.heap a o es ep t L) {i : Nat} (hi : i ≤ es.size) {Q : Option (Value × Nat) → Shared → Prop}
    (h : Q (((walkL w a ep es)[i]?).map fun e => (e.2, slotOf w t (i + 1))) s) : wpAny (model prog w) A (setNext a (slotOf w t i) i ep) Q E s := by
  unfold setNext
  refine wpAny_bind (wpAny_setState_of k.get k.dat k.fits ?_)
  simp only
  unfold setsByText
  refine wpAny_bind (wpAny_bind (wpAny_askSetting (wpAny_pure ?_)))
  show wpAny _ _ (if (w.params.followText "set-order") = true then _ else _) _ _ s
  by_cases hw : w.params.followText "set-order" = true
  · rw [if_pos hw]
    simp only [bne_self_eq_false, Bool.false_eq_true, if_false]
    unfold setWalk
    refine wpAny_bind (wpAny_bind (wpAny_setState_of k.get k.dat k.fits ?_))
    simp only
    unfold setsByText
    refine wpAny_bind (wpAny_bind (wpAny_askSetting (wpAny_pure ?_)))
    show wpAny _ _ (if (w.params.followText "set-order") = true then _ else _) _ _ s
    rw [if_pos hw]
    refine wpAny_bind (wpAny_askSetting (wpAny_pure ?_))
    refine wpAny_pure ?_
    have e1 : walkL w a ep es = pickOrder (w.params.setOrder a ep) es := by unfold walkL; rw [if_pos hw]
    have e2 : ∀ j, slotOf w t j = 0 := fun j => by unfold slotOf; rw [if_pos hw]
    rw [e1, e2] at h
    rw [e2]
    exact h
  · rw [if_neg hw]
    have hdr : (!t.plain && decide (es.size > 1)) = false := by rw [k.pln]; rfl
    have hl : t.led = true := by rw [k.led]; simpa using hw
    have e1 : walkL w a ep es = es := by unfold walkL; rw [if_neg hw]
    have e2 : ∀ j, slotOf w t j = match j with | 0 => 0 | j + 1 => t.place.getD j 0 + 1 := fun j => by unfold slotOf; rw [if_neg hw]
    have hb : SetTable.below t.place (slotOf w t i) = i := by
      obtain ⟨b1, b2, b3⟩ := below_ok k.ok.ris (slotOf w t i)
      cases i with
      | zero =>
        rw [e2] at b1 b2 b3 ⊢
        simp only at b1 b2 b3 ⊢
        rcases Nat.eq_zero_or_pos (SetTable.below t.place 0) with z | z
        · exact z
        · have hlt : 0 < t.place.size := by omega
          have := b2 0 _ z (Array.getElem?_eq_getElem hlt)
          omega
      | succ i =>
        have hip : i < t.place.size := by rw [k.ok.siz]; omega
        have hg : t.place.getD i 0 = t.place[i] := by simp [Array.getD, hip]
        rw [e2] at b1 b2 b3 ⊢
        simp only [hg] at b1 b2 b3 ⊢
        have hq := Array.getElem?_eq_getElem hip
        rcases Nat.lt_trichotomy (SetTable.below t.place (t.place[i] + 1)) (i + 1) with l | l | l
        · have := b3 i _ (by omega) hq
          omega
        · exact l
        · have hlt : i + 1 < t.place.size := by omega
          have q1 := b2 (i + 1) _ l (Array.getElem?_eq_getElem hlt)
          have q2 := k.ok.ris i (i + 1) _ _ (by omega) hq (Array.getElem?_eq_getElem hlt)
          omega
    generalize hu : PySem.unsupported = U
    show wpAny _ _ (if (!t.plain && decide (es.size > 1)) = true then _ else _) _ _ s
    rw [hdr]
    simp only [Bool.false_eq_true, if_false]
    have hm : ∀ R : Unit → Shared → Prop, R () s → wpAny (model prog w) A (if (!t.led && !es.isEmpty) = true then unsupported "set:maker-not-led" else pure ()) R E s := fun R hR => by
      rw [hl]
      simp only [Bool.not_true, Bool.false_and, Bool.false_eq_true, if_false]
      exact wpAny_pure hR
    refine wpAny_bind (hm _ ?_)
    refine wpAny_pure ?_
    rw [hb]
    rw [e1, e2] at h
    simp only at h
    by_cases hlt : i < es.size
    · have hp : i < t.place.size := by rw [k.ok.siz]; exact hlt
      have hg : t.place.getD i 0 = t.place[i] := by simp [Array.getD, hp]
      rw [Array.getElem?_eq_getElem hlt, hg] at h
      rw [Array.getElem?_eq_getElem hlt, Array.getElem?_eq_getElem hp]
      exact h
    · rw [Array.getElem?_eq_none (by omega)] at h
      rw [Array.getElem?_eq_none (by omega)]
      exact h
end
end S4
end
section
set_option maxRecDepth 100000
set_option maxHeartbeats 4000000
namespace S4
open PySem PySem.Spec PyProof.Rows
theorem perm_map {α β : Type} {f : α → β} {l l' : List β} (h : l.Perm l') : ∀ L : List α, l' = L.map f → ∃ L' : List α, L'.Perm L ∧ l = L'.map f := by
  induction h with
  | nil => intro L e; exact ⟨[], by rw [List.map_eq_nil_iff.mp e.symm], rfl⟩
  | cons x _ ih =>
    intro L e
    cases L with
    | nil => cases e
    | cons y L =>
      rw [List.map_cons] at e
      injection e with e1 e2
      obtain ⟨L', p, q⟩ := ih L e2
      exact ⟨y :: L', p.cons y, by rw [q, e1]; rfl⟩
  | swap x y l =>
    intro L e
    match L, e with
    | [], e => cases e
    | [_], e => rw [List.map_cons] at e; injection e with _ e; cases e
    | a :: b :: L, e =>
      rw [List.map_cons, List.map_cons] at e
      injection e with e1 e2
      injection e2 with e2 e3
      exact ⟨b :: a :: L, .swap _ _ _, by rw [e1, e2, e3]; rfl⟩
  | trans _ _ ih1 ih2 =>
    intro L e
    obtain ⟨L1, p1, q1⟩ := ih2 L e
    obtain ⟨L2, p2, q2⟩ := ih1 L1 q1
    exact ⟨L2, p2.trans p1, q2⟩
section
variable {prog : Program} {w : World} {A : Around} {E : Value → Shared → Prop} {s : Shared}
theorem upd_field {h : Heap} {I : Addr} {o : Obj} {fs : Array Value} {g : Array Value → Array Value} (ho : h.get? I = some o) (hd : o.data = .fields fs) :
    ∃ o', (h.update I (Obj.mapFields g)).get? I = some o' ∧ o'.cls = o.cls ∧ o'.data = .fields (g fs) :=
  ⟨_, Heap.get?_update_self _ ho (Obj.isFreed_of_fields (Obj.data_mapFields hd _)), Obj.cls_mapFields .., Obj.data_mapFields hd _⟩
theorem next_item {I a : Addr} {o : Obj} {es : Array Ent} {ep : Nat} {t : SetTable} {L : List KA} {i : Nat} {e : Ent} {Q : Option Value → Shared → Prop} (k : SetAt prog w s.heap a o es ep t L) (hit : IterAt w s.heap I a t es.size ep i) (hne : I ≠ a)
    (he : (walkL w a ep es)[i]? = some e) (hQ : ∀ h', IterAt w h' I a t es.size ep (i + 1) → Heap.SameBut I s.heap h' → Q (some e.2) { s with heap := h' }) : wpAny (model prog w) A (pyNext (.ref I)) Q E s := by
  obtain ⟨oi, ho, hc, hd⟩ := hit.ex
  have hlt : i < es.size := by rw [← walk_size w a ep es]; exact (Array.getElem?_eq_some_iff.mp he).1
  unfold pyNext
  refine wpAny_bind (wpAny_attempt (wpAny_callSpecial?_slot (name := Str.ofString "__next__") hit.typeIs slot_si_next
    (wpAny_call_entry slot_si_next hit.typeIs entry_si_next ?_ (args_si_next _))))
  unfold Builtin.«set_iterator.__next__»
  refine wpAny_bind (m := slotArgs "__next__" 0 _) (wpAny_pure ?_)
  refine wpAny_bind (wpAny_fieldsOf ho hd ?_)
  simp only
  refine wpAny_bind (wpAny_setEntries_of k.get k.dat k.fits ?_)
  rw [if_neg (by simp)]
  refine wpAny_bind ?_
  rw [Int.toNat_natCast, Int.toNat_natCast, Int.toNat_natCast]
  refine next_ok k (Nat.le_of_lt hlt) ?_
  rw [he]
  simp only [Option.map_some]
  refine wpAny_bind (wpAny_setField ho hd (by simp) ?_)
  obtain ⟨o1, g1, c1, d1⟩ := upd_field (g := fun fs => fs.set! 0 (rawInt (slotOf w t (i + 1) : Nat))) ho hd
  refine wpAny_bind (wpAny_setField (o := o1) (s := { s with heap := _ }) g1 d1 (by simp) (wpAny_pure ⟨e.2, rfl, wpAny_pure (hQ _ ?_ ((Heap.SameBut.update ..).trans (Heap.SameBut.update ..)))⟩))
  obtain ⟨o2, g2, c2, d2⟩ := upd_field (g := fun fs => fs.set! 1 (rawInt ((i : Int) + 1))) g1 d1
  refine ⟨o2, g2, by rw [c2, c1]; exact hc, ?_⟩
  rw [d2]
  simp [rawInt]
theorem next_end {I a : Addr} {o : Obj} {es : Array Ent} {ep : Nat} {t : SetTable} {L : List KA} {Q : Option Value → Shared → Prop} (hh : A.handled = none) (k : SetAt prog w s.heap a o es ep t L) (hit : IterAt w s.heap I a t es.size ep es.size)
    (hQ : ∀ h', Heap.ExtBut I s.heap h' → Q none { s with heap := h' }) : wpAny (model prog w) A (pyNext (.ref I)) Q E s := by
  obtain ⟨oi, ho, hc, hd⟩ := hit.ex
  unfold pyNext
  refine wpAny_bind (wpAny_attempt (wpAny_callSpecial?_slot (name := Str.ofString "__next__") hit.typeIs slot_si_next
    (wpAny_call_entry slot_si_next hit.typeIs entry_si_next ?_ (args_si_next _))))
  unfold Builtin.«set_iterator.__next__»
  refine wpAny_bind (m := slotArgs "__next__" 0 _) (wpAny_pure ?_)
  refine wpAny_bind (wpAny_fieldsOf ho hd ?_)
  simp only
  refine wpAny_bind (wpAny_setEntries_of k.get k.dat k.fits ?_)
  rw [if_neg (by simp)]
  refine wpAny_bind ?_
  rw [Int.toNat_natCast, Int.toNat_natCast, Int.toNat_natCast]
  refine next_ok k (Nat.le_refl _) ?_
  rw [Array.getElem?_eq_none (by rw [walk_size]; exact Nat.le_refl _)]
  simp only [Option.map_none]
  refine wpAny_bind (wpAny_setField ho hd (by simp) ?_)
  show wpAny _ _ (newExc (.type "StopIteration") [] >>= _) _ _ _
  refine wpAny_bind ?_
  simp only [newExc, newTuple]
  refine wpAny_bind (wpAny_newObj_type ?_ (by size_fits))
  refine wpAny_bind (m := firstArgMember _ _) (wpAny_of_eq (a := Value.none) (by first | rfl | (simp only [firstArgMember]; rfl)) ?_)
  refine wpAny_newObj_type ?_ (by size_fits)
  simp only [raiseNew]
  refine wpAny_bind (wpAny_handled ?_)
  first | rw [show A.in1.handled = none from hh] | rw [hh]
  refine wpAny_bind (wpAny_pure (wpAny_throw ?_))
  refine wpAny_bind (wpAny_isInstance (T := "StopIteration") (b := true) ⟨_, Heap.get?_push_size _ rfl, rfl⟩ isSubtype_stop ?_)
  exact wpAny_pure (hQ _ (((Heap.SameBut.update ..).extBut.push _).push _))
theorem IterAt.at {h h' : Heap} {I a : Addr} {t : SetTable} {sz ep i : Nat} (k : IterAt w h I a t sz ep i) (e : ∀ o, h.get? I = some o → h'.get? I = some o) : IterAt w h' I a t sz ep i :=
  let ⟨o, ho, r⟩ := k.ex
  ⟨⟨o, e o ho, r⟩⟩
theorem slot_si_iter : Slot "set_iterator" "__iter__" "set_iterator.__iter__" :=
  .of (owner := "set_iterator") (n := "__iter__") (by rw [typeLookup_type, builtinLookup_eq_fast]; kernel_rfl) (by decide +kernel) (by decide +kernel) (by decide +kernel)
    (by first | exact .inl (by decide +kernel) | exact .inr (by decide +kernel)) (by rw [isSubtype_type]; kernel_rfl)
theorem entry_si_iter : entryFor table "set_iterator.__iter__" = some Builtin.«dict_keyiterator.__iter__» :=
  entryFor_alias (id' := "dict_keyiterator.__iter__") (by kernel_rfl) rfl (by decide +kernel) (by kernel_rfl)
theorem args_si_iter (a : Value) : argsOk "set_iterator.__iter__" ⟨[a], []⟩ := by unfold argsOk; kernel_rfl
theorem iter_set {a : Addr} {o : Obj} {es : Array Ent} {ep : Nat} {t : SetTable} {L : List KA} {Q : Value → Shared → Prop} (k : SetAt prog w s.heap a o es ep t L)
    (hQ : ∀ ob, IterAt w (s.heap.push ob) s.heap.objs.size a t es.size ep 0 → Q (.ref s.heap.objs.size) { s with heap := s.heap.push ob }) : wpAny (model prog w) A (pyIter (.ref a)) Q E s := by
  have hT : s.TypeIs (.ref a) "set" := ⟨o, k.get, k.ex.1⟩
  refine wpAny_pyIter_slot hT F.slot_set_iter (wpAny_call_entry F.slot_set_iter hT entry_set_iter ?_ (F.args_set_iter_1 _))
  unfold Builtin.«frozenset.__iter__» Builtin.Frozenset.slot0
  refine wpAny_bind (wpAny_bind (m := slotArgs "__iter__" 0 _) (wpAny_pure ?_))
  refine wpAny_pure ?_
  unfold Builtin.Frozenset.sizeOf
  refine wpAny_bind (wpAny_bind (wpAny_setEntries_of k.get k.dat k.fits (wpAny_pure ?_)))
  unfold setDrawn
  refine wpAny_bind (wpAny_bind (wpAny_setState_of k.get k.dat k.fits ?_))
  simp only
  unfold setsByText
  refine wpAny_bind (wpAny_bind (wpAny_askSetting (wpAny_pure ?_)))
  refine wpAny_pure ?_
  have hdr : (!(w.params.followText "set-order") && (!t.plain && decide (es.size > 1))) = false := by rw [k.pln]; simp
  have hgo : ∀ (X Y : Sem Fin) (R : Fin → Shared → Prop), wpAny (model prog w) A.in1 Y R E s → wpAny (model prog w) A.in1 (if (!(w.params.followText "set-order") && (!t.plain && decide (es.size > 1))) = true then X else Y) R E s := fun X Y R hR => by
    rw [hdr]
    simp only [Bool.false_eq_true, if_false]
    exact hR
  refine hgo _ _ _ ?_
  refine wpAny_bind (wpAny_pure ?_)
  refine wpAny_bind (wpAny_setEpoch_of k.get k.dat k.fits ?_)
  refine wpAny_bind (wpAny_newObj_type (wpAny_pure ⟨_, rfl, "set_iterator", _, ⟨_, Heap.get?_push_size _ rfl, rfl⟩, slot_si_next.lookup, hQ _ ⟨⟨_, Heap.get?_push_size _ rfl, rfl, ?_⟩⟩⟩))
  have e0 : slotOf w t 0 = 0 := by
    unfold slotOf
    split <;> rfl
  rw [e0]
  rfl
theorem walks_set {I a : Addr} {o : Obj} {es : Array Ent} {ep : Nat} {t : SetTable} {L : List KA} (hh : A.handled = none) (hne : I ≠ a) : Walks prog w A I [I, a] [I] es.size (fun i v => ∃ e, (walkL w a ep es)[i]? = some e ∧ v = e.2)
    (fun i h => SetAt prog w h a o es ep t L ∧ IterAt w h I a t es.size ep i) where
  sub := fun b hb => by simp at hb; simp [hb]
  frame := fun i h h' st hk => ⟨st.1.at fun o' e => hk a (by simp) o' e, st.2.at fun o' e => hk I (by simp) o' e⟩
  item := fun i s Q E hi st hQ => by
    have hlt : i < (walkL w a ep es).size := by rw [walk_size]; exact hi
    have he := Array.getElem?_eq_getElem hlt
    exact next_item st.1 st.2 hne he fun h' hit' hs' => hQ _ h' s.toks ⟨_, he, rfl⟩ ⟨st.1.at fun o' e => hs'.extBut a o' (Ne.symm hne) e, hit'⟩ fun b o' hb e => hs'.extBut b o' (fun z => hb (by simp [z])) e
  done := fun s Q E st hQ => next_end hh st.1 st.2 fun h' he' => hQ h' s.toks fun b o' hb e => he' b o' (fun z => hb (by simp [z])) e
  self := fun i s Q E st hQ => by
    refine wpAny_pyIter_slot st.2.typeIs slot_si_iter (wpAny_call_entry slot_si_iter st.2.typeIs entry_si_iter ?_ (args_si_iter _))
    show wpAny _ _ (ret (.ref I)) _ _ s
    exact wpAny_pure ⟨_, rfl, "set_iterator", _, st.2.typeIs, slot_si_next.lookup, hQ⟩
theorem collect_set {a : Addr} {o : Obj} {es : Array Ent} {ep : Nat} {t : SetTable} {L : List KA} {Q : List Value → Shared → Prop} (hh : A.handled = none) (k : SetAt prog w s.heap a o es ep t L) (hsz : es.size ≤ 18)
    (hQ : ∀ (h' : Heap) (tk : Nat) (L' : List KA), L'.Perm L → (∀ b o, s.heap.get? b = some o → h'.get? b = some o) → Q (L'.map fun p => Value.ref p.2) { s with heap := h', toks := tk }) :
    wpAny (model prog w) A (collect (.ref a)) Q E s := by
  have hlt : a < s.heap.objs.size := Heap.lt_size k.get
  unfold collect
  refine wpAny_bind (wpAny_runValue (codeAny_builtin F.entry_proto_collect ?_))
  rw [Around.under_plainId F.plain_proto_collect _]
  show wpAny _ A.in1 (newList [] >>= fun l => again (.builtin "list.__iadd__" ⟨[l, .ref a], []⟩)) _ _ s
  refine wpAny_bind (wpAny_newObj_type ?_)
  refine wpAny_pure ⟨plainId_quiet F.plain_list_iadd _, codeAny_builtin F.entry_list_iadd ?_⟩
  rw [Around.under_plainId F.plain_list_iadd _]
  have k1 : SetAt prog w (s.heap.push { cls := .type "list", data := .seq ([] : List Value).toArray }) a o es ep t L := k.at fun o' e => Heap.get?_push_of_some _ e
  have hS1 : (s.heap.push { cls := .type "list", data := .seq ([] : List Value).toArray }).get? s.heap.objs.size = some { cls := .type "list", data := .seq ([] : List Value).toArray } := Heap.get?_push_size _ rfl
  have hT : Shared.TypeIs { s with heap := s.heap.push { cls := .type "list", data := .seq ([] : List Value).toArray } } (.ref a) "set" := ⟨o, k1.get, k1.ex.1⟩
  have hsame : Builtin.List.listSameRef (.ref s.heap.objs.size) (.ref a) = false := by simp [Builtin.List.listSameRef, Nat.ne_of_gt hlt]
  show wpAny _ A.in1 (Builtin.List.listExtendWith (.ref s.heap.objs.size) (.ref a) (.ref s.heap.objs.size)) _ _ _
  unfold Builtin.List.listExtendWith
  refine wpAny_bind (wpAny_typeOf hT ?_)
  rw [if_neg (by rw [hsame]; decide)]
  refine wpAny_bind (iter_set (s := { s with heap := s.heap.push { cls := .type "list", data := .seq ([] : List Value).toArray } }) k1 fun ob hit => ?_)
  refine wpAny_bind (wpAny_holding ?_)
  have hT2 : Shared.TypeIs { s with heap := (s.heap.push { cls := .type "list", data := .seq ([] : List Value).toArray }).push ob } (.ref a) "set" := ⟨o, Heap.get?_push_of_some _ k1.get, k1.ex.1⟩
  unfold Builtin.List.listLengthHint
  refine wpAny_bind (wpAny_specialOf hT2 F.slot_set_len.lookup ?_)
  generalize hid : ("set.__len__" : String) = id0
  wp_delta
  rw [show splitId id0 = some ("set", "__len__") from by subst hid; decide +kernel]
  subst hid
  refine wpAny_bind (wpAny_isInstance (b := true) hT2 sub_set_self ?_)
  rw [if_neg (by decide)]
  rw [if_pos (by decide +kernel)]
  refine wpAny_bind (wpAny_typeOf hT2 ?_)
  refine wpAny_pure ?_
  rw [if_pos (by decide +kernel)]
  refine wpAny_bind (wpAny_rule ?_)
  generalize hg : (s.heap.push { cls := .type "list", data := .seq ([] : List Value).toArray }).objs.size = I at hit
  have hI : I = s.heap.objs.size + 1 := by rw [← hg]; exact Heap.size_push _ _
  have hIa : I ≠ a := by rw [hI]; exact Nat.ne_of_gt (Nat.lt_succ_of_lt hlt)
  have hID : I ≠ s.heap.objs.size := by rw [hI]; exact Nat.succ_ne_self _
  have hD : s.heap.objs.size ∉ [I, a] := by
    simp only [List.mem_cons, List.not_mem_nil, or_false, not_or]
    exact ⟨Ne.symm hID, Nat.ne_of_gt hlt⟩
  have hS2 : ((s.heap.push { cls := .type "list", data := .seq ([] : List Value).toArray }).push ob).get? s.heap.objs.size = some { cls := .type "list", data := .seq ([] : List Value).toArray } := Heap.get?_push_of_some _ hS1
  refine wpAny_bind ?_
  show wpAny _ A.in1 (updateSeq s.heap.objs.size (·.push .none) >>= fun _ => updateSeq s.heap.objs.size (·.pop)) _ _ _
  refine wpAny_bind (wpAny_updateSeq hS2 rfl ?_)
  have hS3 := Heap.get?_update_self (Obj.mapSeq (·.push Value.none)) hS2 rfl
  refine wpAny_updateSeq hS3 rfl ?_
  have hS4 := Heap.get?_update_self (Obj.mapSeq (·.pop)) hS3 rfl
  have oth : ∀ b o', b ≠ s.heap.objs.size → ((s.heap.push { cls := .type "list", data := .seq ([] : List Value).toArray }).push ob).get? b = some o' →
      ((((s.heap.push { cls := .type "list", data := .seq ([] : List Value).toArray }).push ob).update s.heap.objs.size (Obj.mapSeq (·.push Value.none))).update s.heap.objs.size (Obj.mapSeq (·.pop))).get? b = some o' :=
    fun b o' hb e => (Heap.get?_update_other _ _ (Ne.symm hb)).trans ((Heap.get?_update_other _ _ (Ne.symm hb)).trans e)
  have k2 := (k1.at (h' := (s.heap.push { cls := .type "list", data := .seq ([] : List Value).toArray }).push ob) fun o' e => Heap.get?_push_of_some _ e)
  have hh1 : A.in1.handled = none := by simp [hh]
  have W := walks_set (prog := prog) (w := w) (A := A.in1) (I := I) (a := a) (o := o) (es := es) (ep := ep) (t := t) (L := L) hh1 hIa
  refine wpAny_pure ⟨plainId_quiet F.plain_extend_loop _, ?_⟩
  refine codeAny_extend_loopS W.toS (by rw [sizeLine_eq]; omega) _ hD _ es.size 0 _ _ _ rfl (Nat.zero_le _) ⟨k2.at fun o' e => oth a o' (Nat.ne_of_lt hlt) e, hit.at fun o' e => oth I o' hID e⟩ hS4 (ItemsOf.nil _) fun s' acc c' hm hS' hacc => ?_
  show wpAny _ A (load s.heap.objs.size >>= _) _ _ s'
  refine wpAny_bind (wpAny_load hS' ?_)
  refine wpAny_pure ?_
  obtain ⟨h', g', d', tk', os'⟩ := s'
  have eg : g' = s.gens := hm.gens
  have ed : d' = s.drawn := hm.drawn
  have eo : os' = s.os := hm.os
  subst eg ed eo
  obtain ⟨L', p1, p2⟩ := perm_map (walk_perm w a ep es) L k.ents
  have he : acc.toList = L'.map fun p => Value.ref p.2 := by
    have e1 : acc.toList = (walkL w a ep es).toList.map (·.2) := by
      refine List.ext_getElem? fun i => ?_
      rw [Array.getElem?_toList, List.getElem?_map, Array.getElem?_toList]
      by_cases hi : i < acc.size
      · obtain ⟨e, e1, e2⟩ := hacc.2 i _ (Array.getElem?_eq_getElem hi)
        rw [Array.getElem?_eq_getElem hi, e2, e1]; rfl
      · rw [Array.getElem?_eq_none (by omega), Array.getElem?_eq_none (by rw [walk_size, ← hacc.1]; omega)]; rfl
    rw [e1, p2, List.map_map]
    rfl
  rw [he]
  refine hQ h' tk' L' p1 fun b o' e => hm.heap b o' ?_ (oth b o' (Nat.ne_of_lt (Heap.lt_size e)) (Heap.get?_push_of_some _ (Heap.get?_push_of_some _ e)))
  simp only [List.mem_cons, List.not_mem_nil, or_false, not_or]
  exact ⟨Nat.ne_of_lt (Heap.lt_size e), by rw [hI]; exact Nat.ne_of_lt (Nat.lt_succ_of_lt (Heap.lt_size e))⟩
end
end S4
end
section
set_option maxRecDepth 100000
set_option maxHeartbeats 4000000
namespace S4
open PySem PySem.Spec PySem.W PyProof.Rows L2 S3
section
variable {prog : Program} {w : World} {A : Around} {E : Value → Shared → Prop} {s : Shared}
theorem sort_small {a : Addr} {vs : List Value} {n : Nat} {P : PySem.Fin → Shared → Prop} (ho : s.heap.get? a = some (seqObj "list" vs.toArray n)) (h2 : vs.length < 2)
    (h : ∀ h' c, h'.get? a = some (seqObj "list" vs.toArray c) → (∀ b o, b ≠ a → s.heap.get? b = some o → h'.get? b = some o) → P (.done (.ret .none)) { s with heap := h' }) :
    wpAny (model prog w) A (Builtin.«list.sort» ⟨[.ref a], []⟩) P E s := by
  have ha : a < s.heap.objs.size := Heap.lt_size ho
  obtain ⟨e1, ho1⟩ : ∃ e1, (s.heap.update a (Obj.mapSeq fun _ => (#[] : Array Value))).get? a = some (seqObj "list" #[] e1) := ⟨_, get?_update_seq ho fun _ => #[]⟩
  have ho3 : (((s.heap.update a (Obj.mapSeq fun _ => (#[] : Array Value))).push (seqObj "tuple" vs.toArray 0)).push (seqObj "list" #[] 0)).get? a = some (seqObj "list" #[] e1) := Heap.get?_push_of_some _ (Heap.get?_push_of_some _ ho1)
  rw [list_sort_plain]
  refine wpAny_bind (listItems_at ho rfl ?_)
  refine wpAny_bind (listUpdate_at ho rfl ?_ (by rw [List.size_toArray, sizeLine_eq]; omega) (Nat.zero_le _))
  refine wpAny_bind (seqEpoch_at ho1 rfl ?_)
  refine wpAny_bind (wpAny_newTuple ?_ (by show vs.length ≤ _; rw [sizeLine_eq]; omega))
  refine wpAny_bind (wpAny_newList ?_ (Nat.zero_le _))
  refine wpAny_holding ?_
  show wpAny (model prog w) A _ P E { s with heap := ((s.heap.update a (Obj.mapSeq fun _ => (#[] : Array Value))).push (seqObj "tuple" vs.toArray 0)).push (seqObj "list" #[] 0) }
  dsimp only
  have hn2 : vs.toArray.size < 2 := by rw [List.size_toArray]; omega
  rw [if_pos hn2, if_pos hn2]
  refine wpAny_bind (wpAny_pure ?_)
  rw [StateT.run_pure]
  refine wpAny_bind (wpAny_pure ?_)
  dsimp only
  refine wpAny_bind (seqEpoch_at ho3 rfl ?_)
  have hz : (arrOf (SortSt.mk' general' (vs.toArray.zip vs.toArray) #[] 7 none)).map (·.2) = vs.toArray := by
    show (vs.toArray.zip vs.toArray).map (·.2) = vs.toArray
    rw [Array.map_snd_zip (Nat.le_refl _)]
  rw [hz]
  refine wpAny_bind (listUpdate_at ho3 rfl ?_ (Nat.zero_le _) (by rw [List.size_toArray, sizeLine_eq]; omega))
  obtain ⟨c2, hc2⟩ : ∃ c2, ((((s.heap.update a (Obj.mapSeq fun _ => (#[] : Array Value))).push (seqObj "tuple" vs.toArray 0)).push (seqObj "list" #[] 0)).update a (Obj.mapSeq fun _ => vs.toArray)).get? a = some (seqObj "list" vs.toArray c2) := ⟨_, get?_update_seq ho3 fun _ => vs.toArray⟩
  simp only [bne_self_eq_false, Bool.false_eq_true, if_false]
  refine wpAny_pure (h _ c2 hc2 fun b o hb e => ?_)
  rw [Heap.get?_update_ne _ _ _ _ hb]
  refine Heap.get?_push_of_some _ (Heap.get?_push_of_some _ ?_)
  rw [Heap.get?_update_ne _ _ _ _ hb]
  exact e
end
section
variable {X : Cx}
structure TRow (H : Hp) (vs : List V) (nss : List (List Int)) : Prop where
  len : vs.length = nss.length
  at' : ∀ i, i < vs.length → ∃ a, vs[i]? = some (.ref a) ∧ H a = some (.tup ((nss.getD i []).map V.int))
  same : ∃ c, ∀ i, i < vs.length → (nss.getD i []).length = c + 1
def SortedBy (nss : List (List Int)) (q : List Nat) : Prop := q.Perm (List.range nss.length) ∧ ∀ i j, i ≤ j → j < nss.length → HT.lexLt (nss.getD (q.getD j 0) []) (nss.getD (q.getD i 0) []) = false
theorem call_sorted_any {pins : List (Addr × Obj)} {σ : L2.St} {H : Hp} {s : Shared} {Q : VK} {arg : Value} (I : L2.Inv X pins σ H s) (Pv : List Value → Prop)
    (hc : ∀ (R : List Value → Shared → Prop) (E' : Value → Shared → Prop), (∀ vs h1 tk, Pv vs → (∀ b o, s.heap.get? b = some o → h1.get? b = some o) → R vs { s with heap := h1, toks := tk }) → wpAny (model X.prog X.w) X.A.in1 (collect arg) R E' s)
    (hv : ∀ us, Pv us → ∃ (vs : List V) (nss : List (List Int)), Vals vs us ∧ TRow H vs nss ∧ vs.length < 64 ∧ ∀ q, SortedBy nss q → ∀ l, H l = none → Q (.ref l) (upd H l (.lst (q.map fun i => vs.getD i .non)))) :
    wpAny (model X.prog X.w) X.A (call (.builtin "sorted") [arg]) (EP X pins σ Q) X.xe s := by
  refine Calls.call_function_entry kind_sorted plain_sorted entry_sorted (args_sorted1 _) ?_
  unfold Builtin.«sorted»
  refine wpAny_bind (m := checkCount "sorted" 1 1 _) (wpAny_pure ?_)
  refine wpAny_bind (hc _ _ fun its h1 tk hP keep => ?_)
  obtain ⟨vs, nss, rv, T0, h64, q⟩ := hv its hP
  have hli := rv.length
  have I1 : L2.Inv X pins σ H { s with heap := h1, toks := tk } := I.kept keep
  obtain ⟨m, F⟩ := I1.fr
  refine wpAny_bind (wpAny_newList ?_ (by rw [sizeLine_eq]; omega))
  have hoL : (h1.push (seqObj "list" its.toArray 0)).get? h1.objs.size = some (seqObj "list" its.toArray 0) := Heap.get?_push_size _ rfl
  have up : ∀ b o, h1.get? b = some o → (h1.push (seqObj "list" its.toArray 0)).get? b = some o := fun b o e => Heap.get?_push_of_some _ e
  have nd : h1.get? h1.objs.size = none := Heap.get?_none_of_le (Nat.le_refl _)
  have hL : X.env.locals < h1.objs.size := F.ns.lt
  have hH : H h1.objs.size = none := I1.hok.fresh (Nat.le_refl _)
  have at' : ∀ i, i < its.length → ∃ a, its[i]? = some (.ref a) ∧ its.getD i Value.none = .ref a ∧ H a = some (.tup ((nss.getD i []).map V.int)) := fun i hi => by
    obtain ⟨a, e1, e2⟩ := T0.at' i (by omega)
    obtain ⟨u, hu, ru⟩ := rv.get e1
    cases (show u = Value.ref a from ru)
    exact ⟨a, hu, by rw [List.getD_eq_getElem?_getD, hu]; rfl, e2⟩
  have rv2 : ∀ l : List Nat, (∀ x ∈ l, x < its.length) → Vals (l.map fun i => vs.getD i .non) (l.map fun i => its.getD i Value.none) := by
    intro l
    induction l with
    | nil => intro _; exact .nil
    | cons x l ih =>
      intro hx
      refine .cons ?_ (ih fun y hy => hx y (List.mem_cons_of_mem _ hy))
      have hxl : x < vs.length := by have := hx x List.mem_cons_self; omega
      obtain ⟨u, hu, ru⟩ := rv.get (List.getElem?_eq_getElem hxl)
      show L2.RelV (vs.getD x .non) (its.getD x Value.none)
      rw [List.getD_eq_getElem?_getD, List.getD_eq_getElem?_getD, hu, List.getElem?_eq_getElem hxl]
      exact ru
  show wpAny _ _ _ _ _ { s with heap := h1.push (seqObj "list" its.toArray 0), toks := tk }
  refine wpAny_bind (wpAny_holding (wpAny_call_entry slot_list_sort ⟨_, hoL, rfl⟩ entry_list_sort ?body (args_list_sort _)))
  case body =>
    by_cases h2 : its.length < 2
    · refine sort_small (s := { s with heap := h1.push (seqObj "list" its.toArray 0), toks := tk }) hoL h2 fun h' c g1 g2 => ?_
      refine ⟨_, rfl, wpAny_pure ⟨_, rfl, ?_⟩⟩
      have I2 : L2.Inv X pins σ (upd H h1.objs.size (.lst vs)) { s with heap := h', toks := tk } := I1.laid (fun b o e => g2 b o (Nat.ne_of_lt (Heap.lt_size e)) (up b o e)) (Nat.le_refl _) ⟨by rw [sizeLine_eq]; omega, its, c, rv, g1⟩
      refine ⟨.ref h1.objs.size, _, I2, rfl, ?_⟩
      have := q (List.range nss.length) ⟨.refl _, fun i j hij hj => ?_⟩ _ hH
      · have e : (List.range nss.length).map (fun i => vs.getD i .non) = vs := by
          refine List.ext_getElem? fun i => ?_
          rw [List.getElem?_map, ← T0.len]
          by_cases hi : i < vs.length
          · rw [List.getElem?_range hi, List.getElem?_eq_getElem hi]
            simp [List.getD_eq_getElem?_getD, hi]
          · rw [List.getElem?_eq_none (by simpa using hi), List.getElem?_eq_none (by omega)]; rfl
        rw [e] at this; exact this
      · have : i = j := by have := T0.len; omega
        subst this
        exact lex_irr _
    · obtain ⟨c, hcs⟩ := T0.same
      refine kat_list_sort (s := { s with heap := h1.push (seqObj "list" its.toArray 0), toks := tk }) (F.kept up) (News.grown (news_all (g := X.base) (h := h1) (L := X.env.locals)) up) hoL (Nat.ne_of_gt hL) (Heap.get?_none_of_le (Nat.le_trans F.above (Nat.le_of_lt hL)))
        (fun p hp => Nat.ne_of_lt (Heap.lt_size (news_all p hp).1)) (by omega) (by omega) fun e1 h' F' N' => ?_
      have keepB : ∀ h2 : Heap, Fr X.base X.env.locals h2 m → News X.base X.env.locals h2 (allNews X.base h1 X.env.locals) → ∀ b o, b ≠ X.env.locals → h1.get? b = some o → h2.get? b = some o := fun h2 F2 N2 b o hb e => by
        cases z : X.base.get? b with
        | some o' =>
          have := I1.bk b o' z
          rw [show h1.get? b = some o' from this] at e; cases e
          exact F2.keep b _ z
        | none => exact (N2 (b, o) (mem_allNews hb z e)).1
      have kp := keepB h' F' fun z hz' => N' z (List.mem_cons_of_mem _ hz')
      have T : Tups h1 its nss c := ⟨by have := T0.len; omega, fun i hi => by
        obtain ⟨a, _, e1, e2⟩ := at' i hi
        obtain ⟨_, ws, rw', o, ho, hc', n, hd⟩ := (show ObjOk X.prog X.w H h1 a (.tup ((nss.getD i []).map V.int)) from I1.hok a _ e2)
        refine ⟨a, o, ws.toArray, n, e1, ho, hc', hd, by simpa using intsAre_of rw', ?_⟩
        rw [List.size_toArray, ← rw'.length, List.length_map, hcs i (by omega)]⟩
      have T' : Tups h' its nss c := T.keep fun i a o hi ea ho => by
        obtain ⟨a', _, e1, e2⟩ := at' i hi
        rw [ea] at e1; cases e1
        refine kp a o (fun z => ?_) ho
        rw [z, I1.free] at e2; cases e2
      obtain ⟨fs, k1, k2, k3⟩ := katTups_of (h := h') (vs := its) fun v hv => by
        obtain ⟨i, hi, ei⟩ := List.mem_iff_getElem.mp hv
        obtain ⟨a, o, us, n, f1, f2, f3, f4, f5, f6⟩ := T'.get i hi
        have ev : v = .ref a := by
          rw [List.getD_eq_getElem?_getD, List.getElem?_eq_getElem hi, ei] at f1; exact f1
        generalize nss.getD i [] = ns at f5
        cases hus : us.toList with
        | nil =>
          have : us.size = 0 := by rw [← Array.length_toList, hus]; rfl
          omega
        | cons x r' =>
          rw [hus] at f5
          cases f5 with
          | cons n' t' _ => exact ⟨a, o, us, n, n', t', ev, f2, f3, f4, by rw [← Array.getElem?_toList, hus]; rfl⟩
      refine kat_kind k1 (by omega) (T := .type "int") (fun v hv => by obtain ⟨i, t, rfl⟩ := k3 v hv; exact Looks.of_pure rfl) rfl ?_
      refine okT_wp (n := its.length) (R := In its.length) (b := fun i j => HT.lexLt (nss.getD i []) (nss.getD j [])) (fun i j C hi hj hC => T'.ask hi hj hC) (okT_sort (by omega)) ?_
      obtain ⟨s1, s2⟩ := sort_by (n := its.length) (b := fun i j => HT.lexLt (nss.getD i []) (nss.getD j [])) (by omega) (fun i _ => lex_irr _) (fun i j k _ _ _ => lex_tr) (fun i j k _ _ _ => lex_neg)
      generalize krun (fun i j => HT.lexLt (nss.getD i []) (nss.getD j [])) (kas_sort its.length) = pp at s1 s2
      have hperm : pp.toList.Perm (List.range its.length) := by simpa using Array.Perm.toList s1
      refine KasFin.intro F' N' (.head fun z hz' => Nat.ne_of_lt (Heap.lt_size (news_all z hz').1)) fun h'' c' F'' N'' => ?_
      have kp2 := keepB h'' F'' fun z hz' => N'' z (List.mem_cons_of_mem _ hz')
      obtain ⟨g1, g2, g3⟩ := N'' _ List.mem_cons_self
      have hin : ∀ x ∈ pp.toList, x < its.length := fun x hx => List.mem_range.mp (hperm.mem_iff.mp hx)
      have hsz : (pp.toList.map fun i => vs.getD i .non).length ≤ sizeLine := by
        rw [List.length_map, hperm.length_eq, List.length_range, sizeLine_eq]; omega
      have I2 := Inv_ledger I1 F F'' kp2 nd g1 (rv2 pp.toList hin) hsz
      refine ⟨_, rfl, wpAny_pure ⟨_, rfl, .ref h1.objs.size, _, I2, rfl, q pp.toList ⟨by rw [← T0.len, hli]; exact hperm, fun i j hij hj => ?_⟩ _ hH⟩⟩
      have := s2 i j hij (by have := T0.len; omega)
      rw [Array.getD_eq_getD_getElem?, Array.getD_eq_getD_getElem?] at this
      rw [List.getD_eq_getElem?_getD (l := pp.toList), List.getD_eq_getElem?_getD (l := pp.toList), Array.getElem?_toList, Array.getElem?_toList]
      exact this
end
end S4
end
section
set_option maxRecDepth 100000
set_option maxHeartbeats 4000000
namespace S3
open PySem PySem.Spec PySem.W PyProof.Rows L2 S4
def tupI (ns : List Int) : D := .tup (ns.map D.int)
def rowsOf : List D → Option (List (List Int))
  | [] => some []
  | .tup ds :: r => match intsOf ds, rowsOf r with
    | some ns, some nss => some (ns :: nss)
    | _, _ => none
  | _ => none
theorem lex_tot : ∀ {a b : List Int}, HT.lexLt a b = false → HT.lexLt b a = false → a = b
  | [], [], _, _ => rfl
  | [], _ :: _, h, _ => by cases h
  | _ :: _, [], _, h => by cases h
  | x :: a, y :: b, h1, h2 => by
    rw [HT.lexLt_cons] at h1 h2
    by_cases e : x = y
    · subst e
      rw [if_pos rfl] at h1 h2
      rw [lex_tot h1 h2]
    · rw [if_neg e] at h1
      rw [if_neg (Ne.symm e)] at h2
      have := of_decide_eq_false h1
      have := of_decide_eq_false h2
      omega
abbrev leL (a b : List Int) : Prop := HT.lexLt b a = false
def insT (x : List Int) : List (List Int) → List (List Int)
  | [] => [x]
  | y :: r => if HT.lexLt y x = true then y :: insT x r else x :: y :: r
def sortT : List (List Int) → List (List Int)
  | [] => []
  | x :: r => insT x (sortT r)
theorem insT_perm (x : List Int) : ∀ l, (insT x l).Perm (x :: l)
  | [] => .refl _
  | y :: r => by
    unfold insT
    split
    · exact ((insT_perm x r).cons y).trans (.swap _ _ _)
    · exact .refl _
theorem sortT_perm : ∀ l, (sortT l).Perm l
  | [] => .refl _
  | x :: r => (insT_perm x _).trans ((sortT_perm r).cons x)
theorem leL_trans {a b c : List Int} (h1 : leL a b) (h2 : leL b c) : leL a c := by
  cases q : HT.lexLt c a with
  | false => exact q
  | true =>
    rcases lex_neg (b := b) q with z | z
    · rw [show HT.lexLt c b = false from h2] at z; cases z
    · rw [show HT.lexLt b a = false from h1] at z; cases z
theorem lex_asym {a b : List Int} (h : HT.lexLt a b = true) : HT.lexLt b a = false := by
  cases q : HT.lexLt b a with
  | false => rfl
  | true =>
    have := lex_tr h q
    rw [lex_irr] at this; cases this
theorem insT_sorted (x : List Int) : ∀ {l : List (List Int)}, l.Pairwise leL → (insT x l).Pairwise leL
  | [], _ => by simp [insT]
  | y :: r, h => by
    obtain ⟨h1, h2⟩ := List.pairwise_cons.mp h
    unfold insT
    split
    · next c =>
      refine List.pairwise_cons.mpr ⟨fun z hz => ?_, insT_sorted x h2⟩
      rcases List.mem_cons.mp ((insT_perm x r).mem_iff.mp hz) with rfl | hz
      · exact lex_asym c
      · exact h1 z hz
    · next c =>
      have c' : leL x y := Bool.eq_false_iff.mpr c
      refine List.pairwise_cons.mpr ⟨fun z hz => ?_, h⟩
      rcases List.mem_cons.mp hz with rfl | hz
      · exact c'
      · exact leL_trans c' (h1 z hz)
theorem sortT_sorted : ∀ l, (sortT l).Pairwise leL
  | [] => .nil
  | x :: r => insT_sorted x (sortT_sorted r)
theorem sort_uniq {l l' : List (List Int)} (h : l.Perm l') (h1 : l.Pairwise leL) (h2 : l'.Pairwise leL) : l = l' :=
  List.Perm.eq_of_pairwise (le := leL) (fun a b _ _ x y => lex_tot y x) h1 h2 h
theorem sorted_idx {nss : List (List Int)} {q : List Nat} (h : SortedBy nss q) : q.map (fun i => nss.getD i []) = sortT nss := by
  have hlen : q.length = nss.length := by simpa using h.1.length_eq
  have e : (List.range nss.length).map (fun i => nss.getD i []) = nss := by
    refine List.ext_getElem? fun i => ?_
    rw [List.getElem?_map]
    by_cases hi : i < nss.length
    · rw [List.getElem?_range hi, List.getElem?_eq_getElem hi]
      simp [List.getD_eq_getElem?_getD, hi]
    · rw [List.getElem?_eq_none (by simpa using hi), List.getElem?_eq_none (by omega)]; rfl
  have hp : (q.map (fun i => nss.getD i [])).Perm nss := by
    have := h.1.map (fun i => nss.getD i [])
    rw [e] at this; exact this
  refine sort_uniq (hp.trans (sortT_perm nss).symm) ?_ (sortT_sorted _)
  rw [List.pairwise_iff_getElem]
  intro i j hi hj hij
  rw [List.length_map] at hi hj
  rw [List.getElem_map, List.getElem_map]
  have := h.2 i j (Nat.le_of_lt hij) (by omega)
  rw [List.getD_eq_getElem?_getD (l := q), List.getD_eq_getElem?_getD (l := q), List.getElem?_eq_getElem hi, List.getElem?_eq_getElem hj] at this
  exact this
def dedupT : List (List Int) → List (List Int)
  | [] => []
  | x :: r => if x ∈ dedupT r then dedupT r else x :: dedupT r
theorem dedup_mem {y : List Int} : ∀ {l : List (List Int)}, y ∈ dedupT l ↔ y ∈ l
  | [] => .rfl
  | x :: r => by
    unfold dedupT
    split
    · next h =>
      rw [dedup_mem, List.mem_cons]
      refine ⟨.inr, fun z => z.elim (fun z => ?_) id⟩
      rw [z]; exact dedup_mem.mp h
    · rw [List.mem_cons, List.mem_cons, dedup_mem]
theorem dedup_nd : ∀ l : List (List Int), (dedupT l).Nodup
  | [] => .nil
  | x :: r => by
    unfold dedupT
    split
    · exact dedup_nd r
    · next h => exact List.nodup_cons.mpr ⟨h, dedup_nd r⟩
def sortU (l : List (List Int)) : List (List Int) := sortT (dedupT l)
theorem sortU_of {kv L : List KA} (f : Folded kv L) : sortT (L.map (·.1)) = sortU (kv.map (·.1)) := by
  unfold sortU
  have hp : (L.map (·.1)).Perm (dedupT (kv.map (·.1))) := (List.perm_ext_iff_of_nodup f.nd (dedup_nd _)).mpr fun a => by rw [f.mem, dedup_mem]
  exact sort_uniq ((sortT_perm _).trans (hp.trans (sortT_perm _).symm)) (sortT_sorted _) (sortT_sorted _)
theorem _root_.S4.Folded.perm {kv L L' : List KA} (f : Folded kv L) (h : L'.Perm L) : Folded kv L' :=
  ⟨(List.Perm.nodup_iff (h.map (fun p : KA => p.1))).mpr f.nd, fun k => by rw [(h.map (fun p : KA => p.1)).mem_iff]; exact f.mem k, fun p hp => f.sub p (h.mem_iff.mp hp), by rw [h.length_eq]; exact f.len⟩
section
variable {K : PySem.W.Frag} {ι : List Addr} {H : Hp}
theorem rows_rel : ∀ {ds : List D} {vs : List V} {nss : List (List Int)}, RelDs K ι H ds vs → rowsOf ds = some nss → vs.length = nss.length ∧ ∀ i, i < vs.length → ∃ a, vs[i]? = some (.ref a) ∧ H a = some (.tup ((nss.getD i []).map V.int))
  | [], vs, nss, h, e => by
    cases e
    rw [h.nil_inv]
    exact ⟨rfl, fun i hi => absurd hi (Nat.not_lt_zero _)⟩
  | .tup ds :: r, vs, nss, h, e => by
    obtain ⟨v, ws, rfl, r1, r2⟩ := h.cons_inv
    unfold rowsOf at e
    cases q : intsOf ds with
    | none => rw [q] at e; cases e
    | some ns =>
      rw [q] at e
      cases q2 : rowsOf r with
      | none => rw [q2] at e; cases e
      | some nss' =>
        rw [q2] at e
        cases e
        obtain ⟨h1, h2⟩ := rows_rel r2 q2
        obtain ⟨a, us, rfl, g1, g2⟩ := r1.tup_inv
        refine ⟨by simp [h1], fun i hi => ?_⟩
        cases i with
        | zero =>
          refine ⟨a, rfl, ?_⟩
          rw [intsOf_rel g2 q] at g1
          simpa using g1
        | succ i =>
          obtain ⟨a', e1, e2⟩ := h2 i (by simpa using hi)
          exact ⟨a', by simpa using e1, by simpa using e2⟩
  | .non :: _, _, _, _, e => by cases e
  | .bl _ :: _, _, _, _, e => by cases e
  | .int _ :: _, _, _, _, e => by cases e
  | .str _ :: _, _, _, _, e => by cases e
  | .lst _ :: _, _, _, _, e => by cases e
  | .ro _ :: _, _, _, _, e => by cases e
  | .emp :: _, _, _, _, e => by cases e
theorem ints_rel' : ∀ ns : List Int, RelDs K ι H (ns.map D.int) (ns.map V.int)
  | [] => .nil
  | n :: r => .cons (.int n) (ints_rel' r)
theorem pick_rel {vs : List V} {nss : List (List Int)} (h : ∀ i, i < vs.length → ∃ a, vs[i]? = some (.ref a) ∧ H a = some (.tup ((nss.getD i []).map V.int))) :
    ∀ q : List Nat, (∀ i ∈ q, i < vs.length) → RelDs K ι H ((q.map fun i => nss.getD i []).map tupI) (q.map fun i => vs.getD i .non)
  | [], _ => .nil
  | i :: q, hq => by
    obtain ⟨a, e1, e2⟩ := h i (hq i List.mem_cons_self)
    refine .cons ?_ (pick_rel h q fun j hj => hq j (List.mem_cons_of_mem _ hj))
    show RelD K ι H (tupI (nss.getD i [])) (vs.getD i .non)
    have e3 : vs.getD i .non = .ref a := by rw [List.getD_eq_getElem?_getD, e1]; rfl
    rw [e3]
    exact .tup e2 (ints_rel' _)
end
end S3
end
section
set_option maxRecDepth 100000
set_option maxHeartbeats 4000000
namespace S3
open PySem PySem.Spec PySem.W PyProof.Rows L2 S4
section
variable {X : Cx} {E : XD} {e : Expr} {m : TM} {pos : Pos}
theorem call_sortedTs : CallR X (.builtin "sorted") (fun xs H Q => ∃ (p : Addr) (vs : List V) (nss : List (List Int)), xs = [.ref p] ∧ SqL X.K H p vs ∧ TRow H vs nss ∧ vs.length < 64 ∧
    ∀ q, SortedBy nss q → ∀ l, H l = none → Q (.ref l) (upd H l (.lst (q.map fun i => vs.getD i .non)))) := by
  intro pins s σ H xs us Q I r h
  obtain ⟨p, vs, nss, rfl, hp, T, h64, q⟩ := h
  obtain ⟨u, rfl, rx⟩ := vals1 r
  cases (show u = Value.ref p from rx)
  obtain ⟨its, rv, pl, hz⟩ := I.list hp
  have hli := rv.length
  refine call_sorted_any I (fun us => us = its) (fun R E' hR => ?_) fun us hu => ⟨vs, nss, by rw [hu]; exact rv, T, h64, q⟩
  refine collect_list pl.isList (hR its _ _ rfl fun b o e => ?_) (by rw [sizeLine_eq]; omega)
  have hlt : b < s.heap.objs.size := Heap.lt_size e
  rw [Heap.get?_update_ne _ _ _ _ (Nat.ne_of_lt hlt)]
  exact Heap.get?_push_of_some _ e
def phiS (P : Program) (w : World) (a : Addr) (kv : List KA) : Heap → Prop := fun h => ∃ o es ep t L, SetAt P w h a o es ep t L ∧ Folded kv L
def kvOf (vs : List V) (nss : List (List Int)) : List KA := (List.range vs.length).map fun i => (nss.getD i [], match vs.getD i .non with | .ref a => a | _ => 0)
theorem key_of {P : Program} {w : World} {H : Hp} {h : Heap} (ok : HOk P w H h) {a : Addr} {ns : List Int} (e : H a = some (.tup (ns.map V.int))) : IsTupleKey (intKind P w) h ns a := by
  obtain ⟨_, ws, rw', o, ho, hc, n, hd⟩ := (show ObjOk P w H h a (.tup (ns.map V.int)) from ok a _ e)
  refine ⟨o, ws.toArray, n, ho, hc, hd, ?_⟩
  have hI := intsAre_of rw'
  have go : ∀ {ws : List Value} {ns : List Int}, IntsAre ws ns → ItemsAre (intKind P w) ns ws := by
    intro ws ns h
    induction h with
    | nil => exact .nil
    | cons n t _ ih => exact .cons (intKind_is _ _ _ _) ih
  simpa using go hI
theorem call_setT (hc : X.calm = true) (hu : X.A.units + 8 < cLine) : CallR X (.type "set") (fun xs H Q => ∃ (p : Addr) (vs : List V) (nss : List (List Int)), xs = [.ref p] ∧ (SqL X.K H p vs ∨ SqT X.K H p vs) ∧
    (∀ i, i < vs.length → ∃ a, vs[i]? = some (.ref a) ∧ H a = some (.tup ((nss.getD i []).map V.int))) ∧ vs.length ≤ 18 ∧ ∀ l, H l = none → Q (.ref l) (upd H l (.ext (phiS X.prog X.w l (kvOf vs nss))))) := by
  intro pins s σ H xs us Q I r h
  obtain ⟨p, vs, nss, rfl, hp, T, h18, q⟩ := h
  obtain ⟨u, rfl, rx⟩ := vals1 r
  cases (show u = Value.ref p from rx)
  have src : ∃ its, Vals vs its ∧ Src s.heap p its.toArray := by
    rcases hp with hp | hp
    · obtain ⟨its, rv, pl, hz⟩ := I.list hp
      exact ⟨its, rv, .inl pl.isList⟩
    · obtain ⟨its, rv, pl, hz⟩ := I.tuple hp
      exact ⟨its, rv, .inr pl⟩
  obtain ⟨its, rv, hs⟩ := src
  have hli := rv.length
  have hun : ∀ A : Around, A.in1.units ≤ A.units + 1 := fun A => Nat.le_refl _
  have at' : ∀ i, i < vs.length → ∃ a, its[i]? = some (.ref a) ∧ vs.getD i .non = .ref a ∧ H a = some (.tup ((nss.getD i []).map V.int)) := fun i hi => by
    obtain ⟨a, e1, e2⟩ := T i hi
    obtain ⟨u, hu', ru⟩ := rv.get e1
    cases (show u = Value.ref a from ru)
    exact ⟨a, hu', by rw [List.getD_eq_getElem?_getD, e1]; rfl, e2⟩
  have hf : H s.heap.objs.size = none := I.hok.fresh (Nat.le_refl _)
  refine set_of (I.ok.hd hc) (by show X.A.units + 3 < cLine; omega) hs (fun i => (nss.getD i [], match vs.getD i .non with | .ref a => a | _ => 0)) (fun i v hv => ?_) (by rw [List.size_toArray]; omega) (fun j hj => ?_) fun h' tk o es ep t L hS hF kp => ?_
  · have hi : i < vs.length := by rw [hli]; simpa using (Array.getElem?_eq_some_iff.mp hv).1
    obtain ⟨a, e1, e2, _⟩ := at' i hi
    rw [List.getElem?_toArray, e1] at hv
    cases hv
    simp only [e2]
  · rw [List.size_toArray] at hj
    obtain ⟨a, e1, e2, e3⟩ := at' j (by omega)
    simp only [e2]
    exact key_of I.hok e3
  · rw [List.size_toArray, ← hli] at hF
    refine ⟨.ref s.heap.objs.size, _, I.laid (o := .ext (phiS X.prog X.w s.heap.objs.size (kvOf vs nss))) (fun b o e => kp b o (Heap.lt_size e) e) (Nat.le_refl _) ⟨⟨o, es, ep, t, L, hS, hF⟩, ⟨o, hS.get⟩, fun h1 h2 ⟨o, es, ep, t, L, a1, a2⟩ k => ⟨o, es, ep, t, L, a1.at k, a2⟩⟩, rfl, q _ hf⟩
theorem call_sortedS (hc : X.calm = true) : CallR X (.builtin "sorted") (fun xs H Q => ∃ (p : Addr) (kv : List KA), xs = [.ref p] ∧ H p = some (.ext (phiS X.prog X.w p kv)) ∧ (∀ k ∈ kv, H k.2 = some (.tup (k.1.map V.int)) ∧ k.1.length = 2) ∧ kv.length ≤ 18 ∧
    ∀ L q, Folded kv L → SortedBy (L.map (·.1)) q → ∀ l, H l = none → Q (.ref l) (upd H l (.lst (q.map fun i => (L.map fun k => V.ref k.2).getD i .non)))) := by
  intro pins s σ H xs us Q I r h
  obtain ⟨p, kv, rfl, hp, hk, h18, q⟩ := h
  obtain ⟨u, rfl, rx⟩ := vals1 r
  cases (show u = Value.ref p from rx)
  obtain ⟨⟨o, es, ep, t, L, hS, hF⟩, _, _⟩ := (show ObjOk X.prog X.w H s.heap p (.ext (phiS X.prog X.w p kv)) from I.hok p _ hp)
  have hLn := hF.len
  have rvL : ∀ l : List KA, Vals (l.map fun k => V.ref k.2) (l.map fun k => Value.ref k.2) := by
    intro l
    induction l with
    | nil => exact .nil
    | cons k l ih => exact .cons rfl ih
  refine call_sorted_any I (fun us => ∃ L' : List KA, L'.Perm L ∧ us = L'.map fun k => Value.ref k.2) (fun R E' hR => ?_) ?_
  · refine collect_set (by show X.A.handled = none; exact I.ok.hd hc) hS (by rw [hS.len]; omega) fun h' tk L' hp' kp => hR _ _ _ ⟨L', hp', rfl⟩ kp
  · rintro us ⟨L', hp', rfl⟩
    have hF' := hF.perm hp'
    have hl' := hF'.len
    refine ⟨L'.map fun k => V.ref k.2, L'.map (·.1), rvL L', ⟨by simp, fun i hi => ?_, 1, fun i hi => ?_⟩, by simp; omega, fun qq hq l hl => q L' qq hF' hq l hl⟩
    · rw [List.length_map] at hi
      refine ⟨L'[i].2, by rw [List.getElem?_map, List.getElem?_eq_getElem hi]; rfl, ?_⟩
      have := (hk _ (hF'.sub _ (List.getElem_mem hi))).1
      rw [List.getD_eq_getElem?_getD, List.getElem?_map, List.getElem?_eq_getElem hi]
      exact this
    · rw [List.length_map] at hi
      rw [List.getD_eq_getElem?_getD, List.getElem?_map, List.getElem?_eq_getElem hi]
      exact (hk _ (hF'.sub _ (List.getElem_mem hi))).2
def two (nss : List (List Int)) : Bool := nss.all fun ns => ns.length == 2
def sortRows (nss : List (List Int)) : M D := if nss.length < 64 ∧ two nss = true then newL ((sortT nss).map tupI) else M.fail
def sortedD : List D → M D
  | [.lst k] => do
    let xs ← getL k
    match intsOf xs with
    | some ns => if ns.length < 64 then newL ((sortI ns).map D.int) else M.fail
    | none => match rowsOf xs with
      | some nss => sortRows nss
      | none => M.fail
  | _ => M.fail
theorem two_row {H : Hp} {vs : List V} {nss : List (List Int)} (h : vs.length = nss.length ∧ ∀ i, i < vs.length → ∃ a, vs[i]? = some (.ref a) ∧ H a = some (.tup ((nss.getD i []).map V.int))) (h2 : two nss = true) : TRow H vs nss :=
  ⟨h.1, h.2, 1, fun i hi => by
    have hi' : i < nss.length := by rw [← h.1]; exact hi
    have := List.all_eq_true.mp h2 nss[i] (List.getElem_mem hi')
    rw [List.getD_eq_getElem?_getD, List.getElem?_eq_getElem hi']
    simpa using this⟩
theorem calld_sorted : CallD X.K E sortedD (fun xs H Q => (∃ (p : Addr) (ns : List Int), xs = [.ref p] ∧ SqL X.K H p (ns.map V.int) ∧ ns.length < 64 ∧ ∀ l, H l = none → Q (.ref l) (upd H l (.lst ((sortI ns).map V.int)))) ∨
    ∃ (p : Addr) (vs : List V) (nss : List (List Int)), xs = [.ref p] ∧ SqL X.K H p vs ∧ TRow H vs nss ∧ vs.length < 64 ∧ ∀ q, SortedBy nss q → ∀ l, H l = none → Q (.ref l) (upd H l (.lst (q.map fun i => vs.getD i .non)))) := by
  intro ι S H ds vs Q rep r c
  unfold sortedD at c
  split at c
  · next k =>
    obtain ⟨v, ws, rfl, r1, r2⟩ := r.cons_inv
    cases r2.nil_inv
    obtain ⟨p, rfl, h1⟩ := r1.lst_inv
    obtain ⟨es, us, _, hv, rv, c4⟩ := cont_getL c rep h1
    cases q : intsOf es with
    | some ns =>
      rw [q] at c4
      have c5 : cont X.K E (if ns.length < 64 then newL ((sortI ns).map D.int) else M.fail) ι S H (okD X.K Q) := c4
      by_cases h : ns.length < 64
      · rw [if_pos h] at c5
        exact .inl ⟨p, ns, rfl, .of (by rw [← intsOf_rel rv q]; exact hv), h, (cont_newL' c5 rep (ints_rel _)).2⟩
      · rw [if_neg h] at c5; exact (cont_fail c5).elim
    | none =>
      rw [q] at c4
      cases q2 : rowsOf es with
      | none => rw [q2] at c4; exact (cont_fail c4).elim
      | some nss =>
        rw [q2] at c4
        have c5 : cont X.K E (if nss.length < 64 ∧ two nss = true then newL ((sortT nss).map tupI) else M.fail) ι S H (okD X.K Q) := c4
        by_cases h : nss.length < 64 ∧ two nss = true
        · rw [if_pos h] at c5
          obtain ⟨g1, g2⟩ := rows_rel rv q2
          refine .inr ⟨p, us, nss, rfl, .of hv, two_row ⟨g1, g2⟩ h.2, by omega, fun qq hq l hl => ?_⟩
          have hin : ∀ i ∈ qq, i < us.length := fun i hi => by rw [g1]; exact List.mem_range.mp (hq.1.mem_iff.mp hi)
          have rr : RelDs X.K ι H ((sortT nss).map tupI) (qq.map fun i => us.getD i .non) := by
            rw [← sorted_idx hq]
            exact pick_rel g2 qq hin
          exact (cont_newL' c5 rep rr).2 l hl
        · rw [if_neg h] at c5; exact (cont_fail c5).elim
  · exact (cont_fail c).elim
theorem se_sorted {p : Pos} (hm : X.mg "sorted" = none) (ha : SE X E e m) (hg : Gl X "sorted" := by rfl) (hs : starEach [e] X.env = [(false, eval e X.env)] := by rfl) : SE X E (.Call (.Name "sorted" p) [e] [] pos) (fun ρ => do let ds ← (do let x ← m ρ; let xs ← pure []; pure (x :: xs)); sortedD ds) :=
  se_callB (CallR.or call_sortedI call_sortedTs) calld_sorted hg hm (by decide +kernel) (sa_cons ha sa_nil hs) (by decide) (by decide) hs rfl
def sortSetRows (nss : List (List Int)) : M D := if nss.length ≤ 18 ∧ two nss = true then newL ((sortU nss).map tupI) else M.fail
def sortSetD : List D → M D
  | [.lst k] => do
    let xs ← getL k
    match rowsOf xs with
    | some nss => sortSetRows nss
    | none => M.fail
  | [.tup xs] => match rowsOf xs with
    | some nss => sortSetRows nss
    | none => M.fail
  | _ => M.fail
theorem kv_keys {vs : List V} {nss : List (List Int)} (h : vs.length = nss.length) : (kvOf vs nss).map (·.1) = nss := by
  unfold kvOf
  rw [List.map_map]
  refine List.ext_getElem? fun i => ?_
  rw [List.getElem?_map, h]
  by_cases hi : i < nss.length
  · rw [List.getElem?_range hi, List.getElem?_eq_getElem hi]
    simp [List.getD_eq_getElem?_getD, hi]
  · rw [List.getElem?_eq_none (by simpa using hi), List.getElem?_eq_none (by omega)]; rfl
theorem L_rel {K : PySem.W.Frag} {ι : List Addr} {H : Hp} {L : List KA} (h : ∀ k ∈ L, H k.2 = some (.tup (k.1.map V.int))) : ∀ q : List Nat, (∀ i ∈ q, i < L.length) → RelDs K ι H ((q.map fun i => (L.map (·.1)).getD i []).map tupI) (q.map fun i => (L.map fun k => V.ref k.2).getD i .non) := by
  intro q hq
  refine pick_rel (fun i hi => ?_) q fun i hi => by rw [List.length_map]; exact hq i hi
  rw [List.length_map] at hi
  refine ⟨L[i].2, by rw [List.getElem?_map, List.getElem?_eq_getElem hi]; rfl, ?_⟩
  rw [List.getD_eq_getElem?_getD, List.getElem?_map, List.getElem?_eq_getElem hi]
  exact h _ (List.getElem_mem hi)
theorem se_sortedSet {p q pos2 : Pos} (hc : X.calm = true) (hu : X.A.units + 8 < cLine) (hm : X.mg "sorted" = none) (hm2 : X.mg "set" = none) (ha : SE X E e m) (hg : Gl X "sorted" := by rfl) (hg2 : Gl X "set" := by rfl) (hs : starEach [e] X.env = [(false, eval e X.env)] := by rfl)
    (hs2 : starEach [.Call (.Name "set" q) [e] [] pos2] X.env = [(false, eval (.Call (.Name "set" q) [e] [] pos2) X.env)] := by rfl) :
    SE X E (.Call (.Name "sorted" p) [.Call (.Name "set" q) [e] [] pos2] [] pos) (fun ρ => do let ds ← (do let x ← m ρ; let xs ← pure []; pure (x :: xs)); sortSetD ds) := by
  refine PE.imp (pe_callB (call_sortedS hc) hg hm (by decide +kernel) (pa_cons (pe_callTy (call_setT hc hu) hg2 hm2 (by decide +kernel) (sa_cons ha sa_nil hs) (by decide) (by decide) hs rfl) pa_nil hs2) (by decide) (by decide) hs2 rfl) fun σ H Q h => ?_
  obtain ⟨ι, S, ρ, rep, re, c⟩ := h
  refine ⟨ι, S, ρ, rep, re, cont_mono (cont_bind c) fun ds ι1 S1 H1 e1 rep1 c1 vs r => ?_⟩
  have fin : ∀ {xs : List D} {us : List V} {a : Addr} {nss : List (List Int)}, RelDs X.K ι1 H1 xs us → rowsOf xs = some nss → (SqL X.K H1 a us ∨ SqT X.K H1 a us) → cont X.K E (sortSetRows nss) ι1 S1 H1 (okD X.K Q) → vs = [.ref a] →
      ∃ (p : Addr) (vs' : List V) (nss : List (List Int)), vs = [.ref p] ∧ (SqL X.K H1 p vs' ∨ SqT X.K H1 p vs') ∧
        (∀ i, i < vs'.length → ∃ a, vs'[i]? = some (.ref a) ∧ H1 a = some (.tup ((nss.getD i []).map V.int))) ∧ vs'.length ≤ 18 ∧ ∀ l, H1 l = none →
          ∃ (p : Addr) (kv : List KA), [V.ref l] = [.ref p] ∧ upd H1 l (.ext (phiS X.prog X.w l (kvOf vs' nss))) p = some (.ext (phiS X.prog X.w p kv)) ∧ (∀ k ∈ kv, upd H1 l (.ext (phiS X.prog X.w l (kvOf vs' nss))) k.2 = some (.tup (k.1.map V.int)) ∧ k.1.length = 2) ∧ kv.length ≤ 18 ∧
            ∀ L q, Folded kv L → SortedBy (L.map (·.1)) q → ∀ l', upd H1 l (.ext (phiS X.prog X.w l (kvOf vs' nss))) l' = none → Q (.ref l') (upd (upd H1 l (.ext (phiS X.prog X.w l (kvOf vs' nss)))) l' (.lst (q.map fun i => (L.map fun k => V.ref k.2).getD i .non))) := by
    intro xs us a nss rv q2 hsq cc hvs
    unfold sortSetRows at cc
    by_cases h : nss.length ≤ 18 ∧ two nss = true
    · rw [if_pos h] at cc
      obtain ⟨g1, g2⟩ := rows_rel rv q2
      refine ⟨a, us, nss, hvs, hsq, g2, by omega, fun l hl => ⟨l, kvOf us nss, rfl, upd_same, fun k hk => ?_, by unfold kvOf; simp; omega, fun L qq hF hq l' hl' => ?_⟩⟩
      · unfold kvOf at hk
        obtain ⟨i, hi, rfl⟩ := List.mem_map.mp hk
        rw [List.mem_range] at hi
        obtain ⟨b, b1, b2⟩ := g2 i hi
        have b3 : us.getD i .non = .ref b := by rw [List.getD_eq_getElem?_getD, b1]; rfl
        simp only [b3]
        refine ⟨by rw [upd_ne (ne_of_none b2 hl)]; exact b2, ?_⟩
        have hi' : i < nss.length := by omega
        have := List.all_eq_true.mp h.2 nss[i] (List.getElem_mem hi')
        rw [List.getD_eq_getElem?_getD, List.getElem?_eq_getElem hi']
        simpa using this
      · have hE : Ext ι1 H1 ι1 (upd H1 l (.ext (phiS X.prog X.w l (kvOf us nss)))) := ext_new hl
        have rep2 := rep_new (o := .ext (phiS X.prog X.w l (kvOf us nss))) rep1 hl
        have hin : ∀ i ∈ qq, i < L.length := fun i hi => by
          have := List.mem_range.mp (hq.1.mem_iff.mp hi)
          simpa using this
        have hk : ∀ k ∈ L, upd H1 l (.ext (phiS X.prog X.w l (kvOf us nss))) k.2 = some (.tup (k.1.map V.int)) := fun k hk => by
          have hk' := hF.sub k hk
          unfold kvOf at hk'
          obtain ⟨i, hi, rfl⟩ := List.mem_map.mp hk'
          rw [List.mem_range] at hi
          obtain ⟨b, b1, b2⟩ := g2 i hi
          have b3 : us.getD i .non = .ref b := by rw [List.getD_eq_getElem?_getD, b1]; rfl
          simp only [b3]
          rw [upd_ne (ne_of_none b2 hl)]; exact b2
        have rr := L_rel (K := X.K) (ι := ι1) hk qq hin
        rw [sorted_idx hq, sortU_of hF, kv_keys g1] at rr
        exact (cont_newL' (cont_later cc hE) rep2 rr).2 l' hl'
    · rw [if_neg h] at cc; exact (cont_fail cc).elim
  unfold sortSetD at c1
  split at c1
  · next k =>
    obtain ⟨v, ws, rfl, r1, r2⟩ := r.cons_inv
    cases r2.nil_inv
    obtain ⟨a, rfl, h1⟩ := r1.lst_inv
    obtain ⟨es, us, _, hv, rv, c4⟩ := cont_getL c1 rep1 h1
    cases q2 : rowsOf es with
    | none => rw [q2] at c4; exact (cont_fail c4).elim
    | some nss =>
      rw [q2] at c4
      exact fin rv q2 (.inl (.of hv)) c4 rfl
  · next xs =>
    obtain ⟨v, ws, rfl, r1, r2⟩ := r.cons_inv
    cases r2.nil_inv
    obtain ⟨a, us, rfl, h1, rv⟩ := r1.tup_inv
    cases q2 : rowsOf xs with
    | none => rw [q2] at c1; exact (cont_fail c1).elim
    | some nss =>
      rw [q2] at c1
      exact fin rv q2 (.inr (.of h1)) c1 rfl
  · exact (cont_fail c1).elim
end
end S3
end
section
set_option maxRecDepth 100000
set_option maxHeartbeats 4000000
namespace S4
open PySem PySem.Spec PyProof.Rows L2 S3
section
variable {prog : Program} {w : World} {A : Around} {E : Value → Shared → Prop} {s : Shared}
theorem nextT_item {it t : Addr} {i : Nat} {items : Array Value} {x : Value} {Q : Value → Shared → Prop} (hit : s.heap.IsTupleIter it t i) (ht : s.heap.IsTuple t items) (hx : items[i]? = some x)
    (hQ : ∀ h', h'.IsTupleIter it t (i + 1) → Heap.SameBut it s.heap h' → Q x { s with heap := h' }) : wpAny (model prog w) A (Builtin.SmallTypes.nextOf (.ref it)) Q E s := by
  obtain ⟨o, ho, hc, hd⟩ := id hit
  obtain ⟨ol, hol, _, nl, hdl⟩ := ht
  unfold Builtin.SmallTypes.nextOf
  refine wpAny_bind (wpAny_callSpecial?_slot (name := Str.ofString "__next__") hit.typeIs F.slot_tuple_iterator_next
    (wpAny_call_entry F.slot_tuple_iterator_next hit.typeIs F.entry_tuple_iterator_next ?_ (F.args_tuple_iterator_next_1 _)))
  show wpAny _ _ (field (.ref it) 0 >>= _) _ _ s
  refine wpAny_bind (wpAny_field ho hd (x := .ref t) rfl ?_)
  show wpAny _ _ (if (Value.ref t == Value.none) = true then _ else _) _ _ s
  rw [if_neg (show ¬ ((Value.ref t == Value.none) = true) from Bool.false_ne_true)]
  show wpAny _ _ (field (.ref it) 1 >>= _) _ _ s
  refine wpAny_bind (wpAny_field ho hd (x := .int i 0) rfl ?_)
  show wpAny _ _ (seqItems? (.ref t) >>= _) _ _ s
  refine wpAny_bind (wpAny_seqItems hol hdl ?_)
  simp only [Int.toNat_natCast, hx]
  refine wpAny_bind (wpAny_setField ho hd (by simp) (wpAny_pure ⟨x, rfl, wpAny_pure (hQ _ ?_ (Heap.SameBut.update ..))⟩))
  exact ⟨_, Heap.get?_update_self _ ho (Obj.isFreed_of_fields (Obj.data_mapFields hd _)), (Obj.cls_mapFields ..).trans hc, by
    rw [Obj.data_mapFields hd]; simp [rawInt]⟩
theorem nextT_end {it t : Addr} {i : Nat} {items : Array Value} {Q : Value → Shared → Prop} (hh : A.handled = none) (hit : s.heap.IsTupleIter it t i) (ht : s.heap.IsTuple t items) (hx : items[i]? = none)
    (hE : ∀ h' e, Heap.ExtBut it s.heap h' → (∃ o, h'.get? e = some o ∧ o.cls = .type "StopIteration") → E (.ref e) { s with heap := h' }) : wpAny (model prog w) A (Builtin.SmallTypes.nextOf (.ref it)) Q E s := by
  obtain ⟨o, ho, hc, hd⟩ := id hit
  obtain ⟨ol, hol, _, nl, hdl⟩ := ht
  unfold Builtin.SmallTypes.nextOf
  refine wpAny_bind (wpAny_callSpecial?_slot (name := Str.ofString "__next__") hit.typeIs F.slot_tuple_iterator_next
    (wpAny_call_entry F.slot_tuple_iterator_next hit.typeIs F.entry_tuple_iterator_next ?_ (F.args_tuple_iterator_next_1 _)))
  show wpAny _ _ (field (.ref it) 0 >>= _) _ _ s
  refine wpAny_bind (wpAny_field ho hd (x := .ref t) rfl ?_)
  show wpAny _ _ (if (Value.ref t == Value.none) = true then _ else _) _ _ s
  rw [if_neg (show ¬ ((Value.ref t == Value.none) = true) from Bool.false_ne_true)]
  show wpAny _ _ (field (.ref it) 1 >>= _) _ _ s
  refine wpAny_bind (wpAny_field ho hd (x := .int i 0) rfl ?_)
  show wpAny _ _ (seqItems? (.ref t) >>= _) _ _ s
  refine wpAny_bind (wpAny_seqItems hol hdl ?_)
  simp only [Int.toNat_natCast, hx]
  refine wpAny_bind (wpAny_rule (wpAny_bind (wpAny_setField ho hd (by simp) ?_)))
  show wpAny _ _ (newExc (.type "StopIteration") [] >>= _) _ _ _
  refine wpAny_bind ?_
  simp only [newExc, newTuple]
  refine wpAny_bind (wpAny_newObj_type ?_ (by size_fits))
  refine wpAny_bind (m := firstArgMember _ _) (wpAny_of_eq (a := Value.none) (by first | rfl | (simp only [firstArgMember]; rfl)) ?_)
  refine wpAny_newObj_type ?_ (by size_fits)
  simp only [raiseNew]
  refine wpAny_bind (wpAny_handled ?_)
  first | rw [show A.in1.handled = none from hh] | rw [hh]
  refine wpAny_bind (wpAny_pure (wpAny_throw ?_))
  exact hE _ _ (((Heap.SameBut.update ..).extBut.push _).push _) ⟨_, Heap.get?_push_size _ rfl, rfl⟩
theorem zipT_item {z TI TO i1 i2 l1 l2 : Addr} {k : Nat} {xs ys : Array Value} {x y a b : Value} {Q : Option Value → Shared → Prop} (D : ZipApart z TI TO i1 i2 l1 l2)
    (hz : IsZip s.heap z TI TO .none) (hTI : IsPair s.heap TI (.ref i1) (.ref i2)) (hTO : IsPair s.heap TO a b)
    (h1 : s.heap.IsTupleIter i1 l1 k) (h2 : s.heap.IsTupleIter i2 l2 k) (hl1 : s.heap.IsTuple l1 xs) (hl2 : s.heap.IsTuple l2 ys) (hx : xs[k]? = some x) (hy : ys[k]? = some y)
    (hQ : ∀ h', IsZip h' z TI TO (rawInt s.heap.objs.size) → IsPair h' TO x y → h'.IsTupleIter i1 l1 (k + 1) → h'.IsTupleIter i2 l2 (k + 1) → IsPair h' s.heap.objs.size x y → h'.objs.size = s.heap.objs.size + 1 →
      (∀ c o, c ≠ z → c ≠ TO → c ≠ i1 → c ≠ i2 → s.heap.get? c = some o → h'.get? c = some o) → Q (some (.ref s.heap.objs.size)) { s with heap := h' }) : wpAny (model prog w) A (pyNext (.ref z)) Q E s := by
  have hT : s.TypeIs (.ref z) "zip" := ⟨_, hz, rfl⟩
  unfold pyNext
  refine wpAny_bind (wpAny_attempt (wpAny_callSpecial?_slot (name := Str.ofString "__next__") hT F.slot_zip_next (wpAny_call_entry F.slot_zip_next hT F.entry_zip_next ?_ (F.args_zip_next_1 _))))
  show wpAny _ _ (field (.ref z) 2 >>= _) _ _ _
  refine wpAny_bind (wpAny_field hz rfl (x := .bool false) rfl ?_)
  show wpAny _ _ (field (.ref z) 3 >>= _) _ _ _
  refine wpAny_bind (wpAny_field hz rfl (x := .ref TI) rfl ?_)
  refine wpAny_bind (wpAny_seqItems hTI rfl ?_)
  show wpAny _ _ (Builtin.SmallTypes.ownedTupleIsFree (.ref z) >>= _) _ _ _
  refine wpAny_bind ?_
  unfold Builtin.SmallTypes.ownedTupleIsFree
  refine wpAny_bind (wpAny_field hz rfl (x := .none) rfl (wpAny_pure ?_))
  simp only [if_true]
  refine wpAny_bind (wpAny_rule ?_)
  refine wpAny_bind (wpAny_field hz rfl (x := .ref TO) rfl ?_)
  refine wpAny_bind (wpAny_setField_rec hz (by simp) fun g1 hz1 hs1 => ?_)
  replace hz1 : IsZip g1 z TI TO .ellipsis := hz1
  refine wpAny_bind ?_
  simp only [List.zipIdx_cons, List.zipIdx_nil, List.forIn_cons, List.forIn_nil]
  refine wpAny_bind (wpAny_bind (wpAny_onRaise ?_))
  show wpAny _ _ (Builtin.SmallTypes.nextOf (.ref i1) >>= _) _ _ _
  refine wpAny_bind (nextT_item (s := { s with heap := g1 }) (h1.at fun o e => hs1.extBut _ _ D.i1z e) (hl1.extBut hs1.extBut D.l1z) hx fun g2 h12 hs2 => wpAny_pure ?_)
  have hTO2 : IsPair g2 TO a b := hs2.extBut _ _ D.TOi1 (hs1.extBut _ _ D.TOz hTO)
  refine wpAny_bind (wpAny_seqItems hTO2 rfl ?_)
  refine wpAny_bind (wpAny_updateSeq_pair hTO2 fun g3 hTO3 hs3 => ?_)
  replace hTO3 : IsPair g3 TO x b := hTO3
  refine wpAny_bind (wpAny_letGo (wpAny_pure ?_))
  refine wpAny_bind (wpAny_bind (wpAny_onRaise ?_))
  show wpAny _ _ (Builtin.SmallTypes.nextOf (.ref i2) >>= _) _ _ _
  refine wpAny_bind (nextT_item (s := { s with heap := g3 }) (((h2.at fun o e => hs1.extBut _ _ D.i2z e).at fun o e => hs2.extBut _ _ D.i12.symm e).at fun o e => hs3.extBut _ _ D.TOi2.symm e)
    (((hl2.extBut hs1.extBut D.l2z).extBut hs2.extBut D.l2i1).extBut hs3.extBut D.l2TO) hy fun g4 h24 hs4 => wpAny_pure ?_)
  have hTO4 : IsPair g4 TO x b := hs4.extBut _ _ D.TOi2 hTO3
  refine wpAny_bind (wpAny_seqItems hTO4 rfl ?_)
  refine wpAny_bind (wpAny_updateSeq_pair hTO4 fun g5 hTO5 hs5 => ?_)
  replace hTO5 : IsPair g5 TO x y := hTO5
  refine wpAny_bind (wpAny_letGo (wpAny_pure (wpAny_pure ?_)))
  refine wpAny_bind (wpAny_seqItems hTO5 rfl ?_)
  refine wpAny_bind (wpAny_newTuple ?_)
  have hsz : g5.objs.size = s.heap.objs.size := by rw [hs5.1, hs4.1, hs3.1, hs2.1, hs1.1]
  have hz5 : IsZip g5 z TI TO .ellipsis := hs5.extBut _ _ D.TOz.symm (hs4.extBut _ _ D.i2z.symm (hs3.extBut _ _ D.TOz.symm (hs2.extBut _ _ D.i1z.symm hz1)))
  have hk5 : ∀ c o, c ≠ z → c ≠ TO → c ≠ i1 → c ≠ i2 → s.heap.get? c = some o → g5.get? c = some o := fun c o c1 c2 c3 c4 e =>
    hs5.extBut _ _ c2 (hs4.extBut _ _ c4 (hs3.extBut _ _ c2 (hs2.extBut _ _ c3 (hs1.extBut _ _ c1 e))))
  have h15 : g5.IsTupleIter i1 l1 (k + 1) := ((h12.at fun o e => hs3.extBut _ _ D.TOi1.symm e).at fun o e => hs4.extBut _ _ D.i12 e).at fun o e => hs5.extBut _ _ D.TOi1.symm e
  have h25 : g5.IsTupleIter i2 l2 (k + 1) := h24.at fun o e => hs5.extBut _ _ D.TOi2.symm e
  have hzlt : z < g5.objs.size := Heap.lt_size hz5
  show wpAny _ _ (Builtin.SmallTypes.ownedTupleHandOut (.ref z) (.ref g5.objs.size) >>= _) _ _ _
  refine wpAny_bind ?_
  unfold Builtin.SmallTypes.ownedTupleHandOut
  have hz6 : IsZip (g5.push { cls := .type "tuple", data := .seq #[x, y] }) z TI TO .ellipsis := Heap.get?_push_of_some _ hz5
  refine wpAny_bind (wpAny_setField_rec hz6 (by simp) fun g7 hz7 hs7 => ?_)
  replace hz7 : IsZip g7 z TI TO (rawInt g5.objs.size) := hz7
  refine wpAny_setField_rec hz7 (by simp) fun g8 hz8 hs8 => ?_
  replace hz8 : IsZip g8 z TI TO (rawInt g5.objs.size) := hz8
  have up : ∀ c o, c ≠ z → g5.get? c = some o → g8.get? c = some o := fun c o c1 e => hs8.extBut _ _ c1 (hs7.extBut _ _ c1 (Heap.get?_push_of_some _ e))
  have hT8 : IsPair g8 g5.objs.size x y := hs8.extBut _ _ (Nat.ne_of_gt hzlt) (hs7.extBut _ _ (Nat.ne_of_gt hzlt) (Heap.get?_push_size _ rfl))
  have hz9 : g8.objs.size = g5.objs.size + 1 := by rw [hs8.1, hs7.1, Heap.size_push]
  rw [hsz] at hz8 hT8 hz9
  refine wpAny_pure ⟨_, rfl, ?_⟩
  refine wpAny_pure ?_
  show Q (some (.ref g5.objs.size)) _
  rw [hsz]
  exact hQ g8 hz8 (up _ _ D.TOz hTO5) (h15.at fun o e => up _ o D.i1z e) (h25.at fun o e => up _ o D.i2z e) hT8 hz9 fun c o c1 c2 c3 c4 e => up c o c1 (hk5 c o c1 c2 c3 c4 e)
theorem zipT_end {z TI TO i1 i2 l1 l2 : Addr} {k : Nat} {xs ys : Array Value} {a b : Value} {Q : Option Value → Shared → Prop} (hh : A.handled = none) (D : ZipApart z TI TO i1 i2 l1 l2)
    (hz : IsZip s.heap z TI TO .none) (hTI : IsPair s.heap TI (.ref i1) (.ref i2)) (hTO : IsPair s.heap TO a b)
    (h1 : s.heap.IsTupleIter i1 l1 k) (h2 : s.heap.IsTupleIter i2 l2 k) (hl1 : s.heap.IsTuple l1 xs) (hl2 : s.heap.IsTuple l2 ys) (hend : xs[k]? = none ∨ ys[k]? = none)
    (hQ : ∀ h', (∀ c o, c ≠ z → c ≠ TO → c ≠ i1 → c ≠ i2 → s.heap.get? c = some o → h'.get? c = some o) → Q none { s with heap := h' }) : wpAny (model prog w) A (pyNext (.ref z)) Q E s := by
  have hT : s.TypeIs (.ref z) "zip" := ⟨_, hz, rfl⟩
  unfold pyNext
  refine wpAny_bind (wpAny_attempt (wpAny_callSpecial?_slot (name := Str.ofString "__next__") hT F.slot_zip_next (wpAny_call_entry F.slot_zip_next hT F.entry_zip_next ?_ (F.args_zip_next_1 _))))
  have stop : ∀ (g : Heap) (e : Addr), (∃ o, g.get? e = some o ∧ o.cls = .type "StopIteration") → (∀ c o, c ≠ z → c ≠ TO → c ≠ i1 → c ≠ i2 → s.heap.get? c = some o → g.get? c = some o) → ∀ R : Value → Shared → Prop,
      (∀ v s', wpAny (model prog w) A (do if ← isInstance v (.type "StopIteration") then pure none else throw v) Q E s' → R v s') → R (.ref e) { s with heap := g } := fun g e ⟨o, ho, hc⟩ hk R hR => hR _ _ (by
    refine wpAny_bind (wpAny_isInstance (T := "StopIteration") (b := true) ⟨o, ho, hc⟩ isSubtype_stop ?_)
    exact wpAny_pure (hQ _ hk))
  show wpAny _ _ (field (.ref z) 2 >>= _) _ _ _
  refine wpAny_bind (wpAny_field hz rfl (x := .bool false) rfl ?_)
  show wpAny _ _ (field (.ref z) 3 >>= _) _ _ _
  refine wpAny_bind (wpAny_field hz rfl (x := .ref TI) rfl ?_)
  refine wpAny_bind (wpAny_seqItems hTI rfl ?_)
  show wpAny _ _ (Builtin.SmallTypes.ownedTupleIsFree (.ref z) >>= _) _ _ _
  refine wpAny_bind ?_
  unfold Builtin.SmallTypes.ownedTupleIsFree
  refine wpAny_bind (wpAny_field hz rfl (x := .none) rfl (wpAny_pure ?_))
  simp only [if_true]
  refine wpAny_bind (wpAny_rule ?_)
  refine wpAny_bind (wpAny_field hz rfl (x := .ref TO) rfl ?_)
  refine wpAny_bind (wpAny_setField_rec hz (by simp) fun g1 hz1 hs1 => ?_)
  replace hz1 : IsZip g1 z TI TO .ellipsis := hz1
  refine wpAny_bind ?_
  simp only [List.zipIdx_cons, List.zipIdx_nil, List.forIn_cons, List.forIn_nil]
  refine wpAny_bind (wpAny_bind (wpAny_onRaise ?_))
  show wpAny _ _ (Builtin.SmallTypes.nextOf (.ref i1) >>= _) _ _ _
  cases hx : xs[k]? with
  | none =>
    refine wpAny_bind (nextT_end (s := { s with heap := g1 }) hh (h1.at fun o e => hs1.extBut _ _ D.i1z e) (hl1.extBut hs1.extBut D.l1z) hx fun g2 e hs2 he => ?_)
    obtain ⟨oe, hoe, hce⟩ := he
    have hz2 : IsZip g2 z TI TO .ellipsis := hs2 _ _ D.i1z.symm hz1
    have hez : e ≠ z := fun x => by subst x; rw [hz2] at hoe; cases hoe; simp at hce
    refine wpAny_setField_rec hz2 (by simp) fun g3 _ hs3 => ?_
    refine wpAny_bind (wpAny_isInstance (T := "StopIteration") (b := true) ⟨oe, hs3.extBut _ _ hez hoe, hce⟩ isSubtype_stop ?_)
    exact wpAny_pure (hQ _ fun c o c1 _ c3 _ x => hs3.extBut _ _ c1 (hs2 _ _ c3 (hs1.extBut _ _ c1 x)))
  | some x =>
    have hy : ys[k]? = none := by rcases hend with h | h; rw [hx] at h; cases h; exact h
    refine wpAny_bind (nextT_item (s := { s with heap := g1 }) (h1.at fun o e => hs1.extBut _ _ D.i1z e) (hl1.extBut hs1.extBut D.l1z) hx fun g2 h12 hs2 => wpAny_pure ?_)
    have hTO2 : IsPair g2 TO a b := hs2.extBut _ _ D.TOi1 (hs1.extBut _ _ D.TOz hTO)
    refine wpAny_bind (wpAny_seqItems hTO2 rfl ?_)
    refine wpAny_bind (wpAny_updateSeq_pair hTO2 fun g3 hTO3 hs3 => ?_)
    refine wpAny_bind (wpAny_letGo (wpAny_pure ?_))
    refine wpAny_bind (wpAny_bind (wpAny_onRaise ?_))
    show wpAny _ _ (Builtin.SmallTypes.nextOf (.ref i2) >>= _) _ _ _
    refine wpAny_bind (nextT_end (s := { s with heap := g3 }) hh (((h2.at fun o e => hs1.extBut _ _ D.i2z e).at fun o e => hs2.extBut _ _ D.i12.symm e).at fun o e => hs3.extBut _ _ D.TOi2.symm e)
      (((hl2.extBut hs1.extBut D.l2z).extBut hs2.extBut D.l2i1).extBut hs3.extBut D.l2TO) hy fun g4 e hs4 he => ?_)
    obtain ⟨oe, hoe, hce⟩ := he
    have hz4 : IsZip g4 z TI TO .ellipsis := hs4 _ _ D.i2z.symm (hs3.extBut _ _ D.TOz.symm (hs2.extBut _ _ D.i1z.symm hz1))
    have hez : e ≠ z := fun x => by subst x; rw [hz4] at hoe; cases hoe; simp at hce
    refine wpAny_setField_rec hz4 (by simp) fun g5 _ hs5 => ?_
    refine wpAny_bind (wpAny_isInstance (T := "StopIteration") (b := true) ⟨oe, hs5.extBut _ _ hez hoe, hce⟩ isSubtype_stop ?_)
    exact wpAny_pure (hQ _ fun c o c1 c2 c3 c4 x => hs5.extBut _ _ c1 (hs4 _ _ c4 (hs3.extBut _ _ c2 (hs2.extBut _ _ c3 (hs1.extBut _ _ c1 x)))))
end
end S4
end
section
set_option maxRecDepth 100000
set_option maxHeartbeats 4000000
namespace S4
open PySem PySem.Spec PyProof.Rows L2 S3
def tIt (l : Addr) : Obj := { cls := .type "tuple_iterator", data := .fields #[.ref l, .int 0 0] }
def zp1 (h : Heap) (l1 : Addr) : Heap := h.push (tIt l1)
def zp2 (h : Heap) (l1 l2 : Addr) : Heap := (zp1 h l1).push (tIt l2)
def zp3 (h : Heap) (l1 l2 : Addr) : Heap := (zp2 h l1 l2).push { cls := .type "tuple", data := .seq #[.ref h.objs.size, .ref (zp1 h l1).objs.size] }
def zp4 (h : Heap) (l1 l2 : Addr) : Heap := (zp3 h l1 l2).push { cls := .type "tuple", data := .seq #[.none, .none] }
def zp5 (h : Heap) (l1 l2 : Addr) : Heap := (zp4 h l1 l2).push { cls := .type "zip", data := .fields #[.none, .bool false, .bool false, .ref (zp2 h l1 l2).objs.size, .ref (zp3 h l1 l2).objs.size] }
theorem meetsZ (l1 l2 : Addr) (xs ys : Array Value) :
    Meets (Builtin.«zip.__new__» ⟨[.type "zip", .ref l1, .ref l2], []⟩) (fun _ R s => s.heap.IsTuple l1 xs ∧ s.heap.IsTuple l2 ys ∧ R (.ok (.ret (.ref (zp4 s.heap l1 l2).objs.size))) { s with heap := zp5 s.heap l1 l2 }) :=
  .of_wp fun prog w A R s h => by
    obtain ⟨hp, g, d, tk, os⟩ := s
    obtain ⟨hl1, hl2, h⟩ := h
    have hsub := sub_zip
    have hL1 : Heap.IsTuple (Shared.heap ⟨hp, g, d, tk, os⟩) l1 xs := hl1
    have hL2 : Heap.IsTuple (Shared.heap ⟨hp.push { cls := .type "tuple_iterator", data := .fields #[.ref l1, .int 0 0] }, g, d, tk, os⟩) l2 ys := let ⟨o, e, r⟩ := hl2; ⟨o, Heap.get?_push_of_some _ e, r⟩
    wp_walk using wpAny_pyIter_tuple hL1, wpAny_pyIter_tuple hL2
    exact ⟨_, rfl, h⟩
section
variable {prog : Program} {w : World} {A : Around} {E : Value → Shared → Prop} {s : Shared}
theorem call_zipT {l1 l2 : Addr} {xs ys : Array Value} {Q : Value → Shared → Prop} (hl1 : s.heap.IsTuple l1 xs) (hl2 : s.heap.IsTuple l2 ys)
    (h : ∀ h', IsZip h' (s.heap.objs.size + 4) (s.heap.objs.size + 2) (s.heap.objs.size + 3) .none → IsPair h' (s.heap.objs.size + 2) (.ref s.heap.objs.size) (.ref (s.heap.objs.size + 1)) →
      IsPair h' (s.heap.objs.size + 3) .none .none → h'.IsTupleIter s.heap.objs.size l1 0 → h'.IsTupleIter (s.heap.objs.size + 1) l2 0 → (∀ c o, s.heap.get? c = some o → h'.get? c = some o) → Q (.ref (s.heap.objs.size + 4)) { s with heap := h' }) :
    wpAny (model prog w) A (call (.type "zip") [.ref l1, .ref l2]) Q E s := by
  refine callType_new F.called_zip (by decide) (F.typeCall_zip_2 _ _) (F.newCall_zip_2 _ _) (fun obj => F.args_object_init_3 obj _ _) F.entry_zip_new (meetsZ l1 l2 xs ys) ⟨hl1, hl2, ?_⟩
  have z1 : (zp1 s.heap l1).objs.size = s.heap.objs.size + 1 := Heap.size_push ..
  have z2 : (zp2 s.heap l1 l2).objs.size = s.heap.objs.size + 2 := (Heap.size_push ..).trans (by rw [z1])
  have z3 : (zp3 s.heap l1 l2).objs.size = s.heap.objs.size + 3 := (Heap.size_push ..).trans (by rw [z2])
  have z4 : (zp4 s.heap l1 l2).objs.size = s.heap.objs.size + 4 := (Heap.size_push ..).trans (by rw [z3])
  have u5 : ∀ {c o}, (zp4 s.heap l1 l2).get? c = some o → (zp5 s.heap l1 l2).get? c = some o := fun e => Heap.get?_push_of_some _ e
  have u4 : ∀ {c o}, (zp3 s.heap l1 l2).get? c = some o → (zp4 s.heap l1 l2).get? c = some o := fun e => Heap.get?_push_of_some _ e
  have u3 : ∀ {c o}, (zp2 s.heap l1 l2).get? c = some o → (zp3 s.heap l1 l2).get? c = some o := fun e => Heap.get?_push_of_some _ e
  have u2 : ∀ {c o}, (zp1 s.heap l1).get? c = some o → (zp2 s.heap l1 l2).get? c = some o := fun e => Heap.get?_push_of_some _ e
  have u1 : ∀ {c o}, s.heap.get? c = some o → (zp1 s.heap l1).get? c = some o := fun e => Heap.get?_push_of_some _ e
  have g5 : (zp5 s.heap l1 l2).get? (zp4 s.heap l1 l2).objs.size = some { cls := .type "zip", data := .fields #[.none, .bool false, .bool false, .ref (zp2 s.heap l1 l2).objs.size, .ref (zp3 s.heap l1 l2).objs.size] } := Heap.get?_push_size _ rfl
  have g4 : (zp5 s.heap l1 l2).get? (zp3 s.heap l1 l2).objs.size = some { cls := .type "tuple", data := .seq #[.none, .none] } := u5 (Heap.get?_push_size _ rfl)
  have g3 : (zp5 s.heap l1 l2).get? (zp2 s.heap l1 l2).objs.size = some { cls := .type "tuple", data := .seq #[.ref s.heap.objs.size, .ref (zp1 s.heap l1).objs.size] } := u5 (u4 (Heap.get?_push_size _ rfl))
  have g2 : (zp5 s.heap l1 l2).get? (zp1 s.heap l1).objs.size = some (tIt l2) := u5 (u4 (u3 (Heap.get?_push_size _ rfl)))
  have g1 : (zp5 s.heap l1 l2).get? s.heap.objs.size = some (tIt l1) := u5 (u4 (u3 (u2 (Heap.get?_push_size _ rfl))))
  show _ ∧ _
  rw [z2, z3, z4] at g5
  rw [z1, z2] at g3
  rw [z3] at g4
  rw [z1] at g2
  rw [z4]
  exact ⟨⟨_, g5, rfl⟩, h _ g5 g3 g4 ⟨_, g1, rfl, rfl⟩ ⟨_, g2, rfl, rfl⟩ fun c o x => u5 (u4 (u3 (u2 (u1 x))))⟩
end
def Itz (va vb : List V) : It := ⟨fun i _ => i < va.length ∧ i < vb.length, fun i H x H' => ∃ p a b, H p = none ∧ va[i]? = some a ∧ vb[i]? = some b ∧ x = .ref p ∧ H' = upd H p (.tup [a, b]), fun i _ => va.length ≤ i ∨ vb.length ≤ i⟩
section
variable {X : Cx} {pins : List (Addr × Obj)} {σ : L2.St} {H : Hp} {s : Shared}
theorem turnedL {h' : Heap} {t' : Nat} {ch : List Addr} (I : L2.Inv X pins σ H s) (hf : ∀ b ∈ ch, FpOk X pins H b) (k : ∀ b o, b ∉ ch → s.heap.get? b = some o → h'.get? b = some o) : L2.Inv X pins σ H { s with heap := h', toks := t' } := by
  have nch : ∀ b u, H b = some u → b ∉ ch := fun b u e z => by rw [(hf b z).1] at e; cases e
  refine I.step (g' := s.gens) (d' := s.drawn) (ch := ch) (fun b hb => ?_) (fun b o _ _ hc e _ => k b o hc e) (fun b o _ _ hc e _ => ⟨o.slots, k b o hc e⟩) (fun _ _ _ _ n => n)
    (fun b o hc e => ⟨o, k b o hc e⟩) (fun _ _ e => e) (fun _ _ _ e => e) (fun b ps e => ⟨#[], by rw [e]; simp⟩) (fun m hm => ?_) (fun b u e => ?_) I.bare
  · obtain ⟨f0, f1, f2, f3, f4, f5⟩ := hf b hb
    exact ⟨f3, f1, f4, f5⟩
  · obtain ⟨o, es, ep, ho, r⟩ := hm
    exact ⟨o, es, ep, k _ o (fun z => (hf _ z).2.1 rfl) ho, r⟩
  · refine (I.hok b u e).stay (fun c v hc q => k c v ?_ q) (fun _ q => q) fun _ _ q => q
    rcases hc with z | z
    · rw [z]; exact nch b u e
    · exact nch c _ z
theorem turnedN {h' : Heap} {t' : Nat} {ch : List Addr} {a : Addr} {o : HO} (I : L2.Inv X pins σ H s) (hf : ∀ b ∈ ch, FpOk X pins H b) (k : ∀ b o, b ∉ ch → s.heap.get? b = some o → h'.get? b = some o) (hp : s.heap.objs.size ≤ a) (new : ObjOk X.prog X.w (upd H a o) h' a o) :
    L2.Inv X pins σ (upd H a o) { s with heap := h', toks := t' } := by
  have hn : H a = none := I.hok.fresh hp
  have nch : ∀ b u, H b = some u → b ∉ ch := fun b u e z => by rw [(hf b z).1] at e; cases e
  have ne : ∀ b o, s.heap.get? b = some o → b ≠ a := fun b o e => Nat.ne_of_lt (Nat.lt_of_lt_of_le (Heap.lt_size e) hp)
  refine I.step (g' := s.gens) (d' := s.drawn) (ch := ch) (fun b hb => ?_) (fun b o _ _ hc e _ => k b o hc e) (fun b o _ _ hc e _ => ⟨o.slots, k b o hc e⟩) (fun b o _ e n => by rw [upd_ne (ne b o e)]; exact n)
    (fun b o hc e => ⟨o, k b o hc e⟩) (fun b xs e => by rw [upd_ne (ne_of_none e hn)]; exact e) (fun b _ _ e => by rw [upd_ne (ne_of_none e hn)]; exact e) (fun b ps e => ⟨#[], by rw [upd_ne (ne_of_none e hn), e]; simp⟩) (fun m hm => ?_) (fun b u e => ?_) I.bare
  · obtain ⟨f0, f1, f2, f3, f4, f5⟩ := hf b hb
    exact ⟨f3, f1, f4, f5⟩
  · obtain ⟨o, es, ep, ho, r⟩ := hm
    exact ⟨o, es, ep, k _ o (fun z => (hf _ z).2.1 rfl) ho, r⟩
  · by_cases hb : b = a
    · subst hb; rw [upd_same] at e; cases e; exact new
    · rw [upd_ne hb] at e
      refine (I.hok b u e).stay (fun c v hc q => k c v ?_ q) (fun c q => by rw [upd_ne (ne_of_none q hn)]; exact q) fun c xs q => by rw [upd_ne (ne_of_none q hn)]; exact q
      rcases hc with z | z
      · rw [z]; exact nch b u e
      · exact nch c _ z
end
theorem turn_zip {P : Program} {w : World} {K : PySem.W.Frag} {elts : List Expr} {x1} {tp : Pos} {z TI TO i1 i2 l1 l2 : Addr} (D : ZipApart z TI TO i1 i2 l1 l2) {va vb : List V} (H0 : Hp → Prop) (hH0 : ∀ H, H0 H ↔ (H l1 = some (.tup va) ∧ H l2 = some (.tup vb))) :
    Turn P w K (.Tuple elts x1 tp) ⟨fun i H => (Itz va vb).go i H ∧ H0 H, (Itz va vb).yld, fun i H => (Itz va vb).stop i H ∧ H0 H⟩ [z, TI, TO, i1, i2] z
      (fun i h => IsZip h z TI TO .none ∧ IsPair h TI (.ref i1) (.ref i2) ∧ (∃ a b, IsPair h TO a b) ∧ h.IsTupleIter i1 l1 i ∧ h.IsTupleIter i2 l2 i) where
  mem := by simp
  obj := fun i h st b hb => by
    obtain ⟨hz, hTI, ⟨a, c, hTO⟩, ⟨o1, e1, c1, d1⟩, ⟨o2, e2, c2, d2⟩⟩ := st
    simp only [List.mem_cons, List.not_mem_nil, or_false] at hb
    rcases hb with rfl | rfl | rfl | rfl | rfl
    · exact ⟨_, hz, fun v z => by cases z⟩
    · exact ⟨_, hTI, fun v z => by cases z⟩
    · exact ⟨_, hTO, fun v z => by cases z⟩
    · exact ⟨_, e1, fun v z => by rw [d1] at z; cases z⟩
    · exact ⟨_, e2, fun v z => by rw [d2] at z; cases z⟩
  keep := fun i h h' st k => by
    obtain ⟨hz, hTI, ⟨a, c, hTO⟩, h1, h2⟩ := st
    exact ⟨k z (by simp) _ hz, k TI (by simp) _ hTI, ⟨a, c, k TO (by simp) _ hTO⟩, h1.at fun o e => k i1 (by simp) o e, h2.at fun o e => k i2 (by simp) o e⟩
  item := by
    intro X hP hw hK hc i pins s σ H E I hf st hg
    subst hP hw hK
    obtain ⟨hz, hTI, ⟨a, c, hTO⟩, h1, h2⟩ := st
    obtain ⟨⟨ga, gb⟩, hH⟩ := hg
    obtain ⟨hA, hB⟩ := (hH0 H).mp hH
    obtain ⟨its1, rv1, p1, _⟩ := I.tuple (.of hA)
    obtain ⟨its2, rv2, p2, _⟩ := I.tuple (.of hB)
    obtain ⟨u1, hu1, ru1⟩ := rv1.get (List.getElem?_eq_getElem ga)
    obtain ⟨u2, hu2, ru2⟩ := rv2.get (List.getElem?_eq_getElem gb)
    refine zipT_item D hz hTI hTO h1 h2 p1 p2 (x := u1) (y := u2) (by simpa using hu1) (by simpa using hu2) fun h' a1 a2 a3 a4 a5 a6 hk => ?_
    have hTn : H s.heap.objs.size = none := I.hok.fresh (Nat.le_refl _)
    have lt : ∀ {c o}, s.heap.get? c = some o → s.heap.objs.size ≠ c := fun e => Nat.ne_of_gt (Heap.lt_size e)
    refine ⟨_, rfl, wpAny_letOwnedTupleGo_zip a1 fun h'' hz' hs' => ?_⟩
    have hTI' : IsPair h'' TI (.ref i1) (.ref i2) := hs'.extBut _ _ D.TIz (hk _ _ D.TIz D.TITO D.TIi1 D.TIi2 hTI)
    have kk : ∀ b o, b ∉ [z, TI, TO, i1, i2] → s.heap.get? b = some o → h''.get? b = some o := fun b o hb e => by
      simp only [List.mem_cons, List.not_mem_nil, or_false, not_or] at hb
      exact hs'.extBut _ _ hb.1 (hk b o hb.1 hb.2.2.1 hb.2.2.2.1 hb.2.2.2.2 e)
    have T'' : IsPair h'' s.heap.objs.size u1 u2 := hs'.extBut _ _ (lt hz) a5
    have I2 : L2.Inv X pins σ (upd H s.heap.objs.size (.tup [va[i], vb[i]])) { s with heap := h'', toks := s.toks } := turnedN (o := .tup [va[i], vb[i]]) I hf kk (Nat.le_refl _) ⟨by show 2 ≤ sizeLine; decide, [u1, u2], .cons ru1 (.cons ru2 .nil), _, T'', rfl, _, rfl⟩
    refine ⟨.ref s.heap.objs.size, _, I2, rfl,
      ⟨_, _, _, hTn, List.getElem?_eq_getElem ga, List.getElem?_eq_getElem gb, rfl, rfl⟩, ⟨hz', hTI', ⟨_, _, hs'.extBut _ _ D.TOz a2⟩, a3.at fun o e => hs'.extBut _ _ D.i1z e, a4.at fun o e => hs'.extBut _ _ D.i2z e⟩, fun b hb => ?_⟩
    obtain ⟨ob, ho, _⟩ : ∃ ob, s.heap.get? b = some ob ∧ True := by
      simp only [List.mem_cons, List.not_mem_nil, or_false] at hb
      rcases hb with rfl | rfl | rfl | rfl | rfl
      · exact ⟨_, hz, trivial⟩
      · exact ⟨_, hTI, trivial⟩
      · exact ⟨_, hTO, trivial⟩
      · obtain ⟨o, e, _⟩ := h1; exact ⟨_, e, trivial⟩
      · obtain ⟨o, e, _⟩ := h2; exact ⟨_, e, trivial⟩
    rw [upd_ne (Nat.ne_of_lt (Heap.lt_size ho))]
    exact (hf b hb).1
  done := by
    intro X hP hw hK hc i pins s σ H E I hf st hg
    subst hP hw hK
    obtain ⟨hz, hTI, ⟨a, c, hTO⟩, h1, h2⟩ := st
    obtain ⟨gs, hH⟩ := hg
    obtain ⟨hA, hB⟩ := (hH0 H).mp hH
    obtain ⟨its1, rv1, p1, _⟩ := I.tuple (.of hA)
    obtain ⟨its2, rv2, p2, _⟩ := I.tuple (.of hB)
    have l1' := rv1.length
    have l2' := rv2.length
    refine zipT_end (I.ok.hd hc) D hz hTI hTO h1 h2 p1 p2 (gs.imp (fun g => by simp; omega) fun g => by simp; omega) fun h' hk => ⟨rfl, turnedL (t' := s.toks) I hf fun b o hb e => ?_⟩
    simp only [List.mem_cons, List.not_mem_nil, or_false, not_or] at hb
    exact hk b o hb.1 hb.2.2.1 hb.2.2.2.1 hb.2.2.2.2 e
  self := fun _ _ _ _ _ st h => wpAny_pyIter_zip st.1 h
theorem pi_zipT {X : Cx} {elts : List Expr} {x1} {tp p pos : Pos} {es : List Expr} {e : Expr} {ta : TA} (hg : Gl X "zip") (hm : X.mg "zip" = none) (ha : PA X (e :: es) ta)
    (he : starEach (e :: es) X.env = (false, eval e X.env) :: starEach es X.env := by rfl) (hpl : (backTo pos (starEach es X.env)).any (·.1) = false := by rfl) :
    PI X (.Tuple elts x1 tp) (.Call (.Name "zip" p) (e :: es) [] pos) (fun σ H R => ta σ H fun xs H1 => ∃ a b va vb, xs = [.ref a, .ref b] ∧ H1 a = some (.tup va) ∧ H1 b = some (.tup vb) ∧
      R ⟨fun i H => (Itz va vb).go i H ∧ (H a = some (.tup va) ∧ H b = some (.tup vb)), (Itz va vb).yld, fun i H => (Itz va vb).stop i H ∧ (H a = some (.tup va) ∧ H b = some (.tup vb))⟩ H1) := by
  intro pins s σ H R I h
  refine Call_ (ld_blt I hg hm (show bootBuiltins "zip" = some (.type "zip") by decide +kernel) (PyProof.Rows.callWith_type1 (thn (ha pos pins s σ H _ I h) fun us s1 ⟨vs, H1, I1, r1, q1⟩ => ?_) he hpl) (by decide) (by decide))
  obtain ⟨a, b, va, vb, rfl, hA, hB, q⟩ := q1
  obtain ⟨u, w', rfl, ru, rw'⟩ := vals2 r1
  cases (show u = Value.ref a from ru)
  cases (show w' = Value.ref b from rw')
  obtain ⟨its1, rv1, p1, _⟩ := I1.tuple (.of hA)
  obtain ⟨its2, rv2, p2, _⟩ := I1.tuple (.of hB)
  have a1 : a < s1.heap.objs.size := by obtain ⟨_, e, _⟩ := p1; exact Heap.lt_size e
  have a2 : b < s1.heap.objs.size := by obtain ⟨_, e, _⟩ := p2; exact Heap.lt_size e
  refine call_zipT p1 p2 fun h' hz hTI hTO hi1 hi2 hk => ?_
  refine wpAny_pyIter_zip hz ?_
  have I2 : L2.Inv X pins σ H1 { s1 with heap := h', toks := s1.toks } := I1.kept hk
  refine ⟨s1.heap.objs.size + 4, [s1.heap.objs.size + 4, s1.heap.objs.size + 2, s1.heap.objs.size + 3, s1.heap.objs.size, s1.heap.objs.size + 1], _, _, H1, rfl, I2,
    turn_zip (zipApart_new a1 a2) (fun H => H a = some (.tup va) ∧ H b = some (.tup vb)) (fun _ => .rfl), ⟨hz, hTI, ⟨_, _, hTO⟩, hi1, hi2⟩, fun c hc => ?_, q⟩
  have hle : s1.heap.objs.size ≤ c := by
    simp only [List.mem_cons, List.not_mem_nil, or_false] at hc
    rcases hc with rfl | rfl | rfl | rfl | rfl
    · exact Nat.le_add_right _ _
    · exact Nat.le_add_right _ _
    · exact Nat.le_add_right _ _
    · exact Nat.le_refl _
    · exact Nat.le_add_right _ _
  exact I1.fpOk hle (I1.hok.fresh hle)
def zipI : List D → M Iter
  | [.tup xs, .tup ys] => pure ⟨(xs.zip ys).map fun p => .tup [p.1, p.2], none⟩
  | _ => M.fail
theorem zip_get {xs ys : List D} {i : Nat} {d : D} (h : ((xs.zip ys).map fun p => D.tup [p.1, p.2])[i]? = some d) : ∃ x y, xs[i]? = some x ∧ ys[i]? = some y ∧ d = .tup [x, y] := by
  rw [List.getElem?_map] at h
  cases q : (xs.zip ys)[i]? with
  | none => rw [q] at h; cases h
  | some p =>
    rw [q] at h
    cases h
    obtain ⟨h1, h2⟩ := List.getElem?_zip_eq_some.mp q
    exact ⟨p.1, p.2, h1, h2, rfl⟩
theorem iterOk_zip {K : PySem.W.Frag} {ι : List Addr} {H : Hp} {S : Store} {a b : Addr} {va vb : List V} {xs ys : List D} (rep : Rep K ι H S) (hA : H a = some (.tup va)) (hB : H b = some (.tup vb)) (rx : RelDs K ι H xs va) (ry : RelDs K ι H ys vb) :
    IterOk K ⟨(xs.zip ys).map fun p => .tup [p.1, p.2], none⟩ ⟨fun i H => (Itz va vb).go i H ∧ (H a = some (.tup va) ∧ H b = some (.tup vb)), (Itz va vb).yld, fun i H => (Itz va vb).stop i H ∧ (H a = some (.tup va) ∧ H b = some (.tup vb))⟩ ι H := by
  intro ι2 H2 S2 e rep2 ok i
  have hA2 : H2 a = some (.tup va) := (e.oth a _ hA (rep.notIn hA (by intro _ z; cases z))).1
  have hB2 : H2 b = some (.tup vb) := (e.oth b _ hB (rep.notIn hB (by intro _ z; cases z))).1
  have rx2 := rx.later rep e
  have ry2 := ry.later rep e
  have lx := rx2.length
  have ly := ry2.length
  refine ⟨fun d hd => ?_, fun hlen => ?_⟩
  · obtain ⟨x, y, h1, h2, rfl⟩ := zip_get hd
    have i1 := (List.getElem?_eq_some_iff.mp h1).1
    have i2 := (List.getElem?_eq_some_iff.mp h2).1
    refine ⟨⟨⟨by omega, by omega⟩, hA2, hB2⟩, ?_⟩
    rintro v H3 ⟨p, va', vb', hp, g1, g2, rfl, rfl⟩
    obtain ⟨v1, e1, r1⟩ := rx2.get' h1
    obtain ⟨v2, e2, r2⟩ := ry2.get' h2
    obtain rfl : v1 = va' := Option.some.inj (e1.symm.trans g1)
    obtain rfl : v2 = vb' := Option.some.inj (e2.symm.trans g2)
    have hE : Ext ι2 H2 ι2 (upd H2 p (.tup [v1, v2])) := ext_new hp
    exact ⟨hE, rep_new rep2 hp, .tup upd_same (.cons (r1.later rep2 hE) (.cons (r2.later rep2 hE) .nil))⟩
  · have hl : min xs.length ys.length ≤ i := by simpa using hlen
    refine ⟨?_, hA2, hB2⟩
    rcases Nat.le_total xs.length ys.length with z | z
    · exact .inl (by omega)
    · exact .inr (by omega)
theorem si_zipT {X : Cx} {E : XD} {elts : List Expr} {x1} {tp p pos : Pos} {a b : Expr} {m n : TM} (hm : X.mg "zip" = none) (ha : SE X E a m) (hb : SE X E b n) (hg : Gl X "zip" := by rfl)
    (hs : starEach [a, b] X.env = [(false, eval a X.env), (false, eval b X.env)] := by rfl) (hs2 : starEach [b] X.env = [(false, eval b X.env)] := by rfl) :
    SI X E (.Tuple elts x1 tp) (.Call (.Name "zip" p) [a, b] [] pos) (fun ρ => do let ds ← (do let x ← m ρ; let xs ← (do let y ← n ρ; let ys ← pure []; pure (y :: ys)); pure (x :: xs)); zipI ds) := by
  intro pins s σ H R I h
  refine pi_zipT hg hm (sa_cons ha (sa_cons hb sa_nil (by rw [hs2]; rfl)) (by rw [hs, hs2])) (by rw [hs, hs2]) (by rw [hs2]; rfl) pins s σ H R I ?_
  obtain ⟨ι, S, ρ, rep, re, c⟩ := h
  refine ⟨ι, S, ρ, rep, re, cont_mono (cont_bind c) fun ds ι1 S1 H1 e1 rep1 c1 vs r => ?_⟩
  unfold zipI at c1
  split at c1
  · next xs ys =>
    obtain ⟨v1, ws, rfl, r1, r2⟩ := r.cons_inv
    obtain ⟨v2, ws2, rfl, r3, r4⟩ := r2.cons_inv
    cases r4.nil_inv
    obtain ⟨pa, va, rfl, hA, rx⟩ := r1.tup_inv
    obtain ⟨pb, vb, rfl, hB, ry⟩ := r3.tup_inv
    exact ⟨pa, pb, va, vb, rfl, hA, hB, cont_pure c1 .refl rep1 _ (iterOk_zip rep1 hA hB rx ry)⟩
  · exact (cont_fail c1).elim
end S4
end
section
set_option maxRecDepth 100000
set_option maxHeartbeats 4000000
namespace S3
open PySem PySem.Spec PyProof.Rows L2 S4
abbrev mV (i : Nat) : TM := fun ρ => rdV ρ i
abbrev mK (d : D) : TM := fun _ => pure d
abbrev mAnd (m n : TM) : TM := fun ρ => do let x ← m ρ; let c ← asB x; if c = true then n ρ else pure (.bl false)
abbrev mOr (m n : TM) : TM := fun ρ => do let x ← m ρ; let c ← asB x; if c = true then pure (.bl true) else n ρ
abbrev mNot (m : TM) : TM := fun ρ => do let x ← m ρ; let c ← asB x; pure (.bl (!c))
abbrev mIf (t : Env0 → M Bool) (m n : TM) : TM := fun ρ => do let k ← t ρ; if k = true then m ρ else n ρ
abbrev TMA := Env0 → M (List D)
abbrev aNil : TMA := fun _ => pure []
abbrev aCons (m : TM) (ms : TMA) : TMA := fun ρ => do let x ← m ρ; let xs ← ms ρ; pure (x :: xs)
abbrev mTup (ms : TMA) : TM := fun ρ => do let ds ← ms ρ; mkTup ds
abbrev mLst (ms : TMA) : TM := fun ρ => do let ds ← ms ρ; newL ds
abbrev mCall (F : List D → M D) (ms : TMA) : TM := fun ρ => do let ds ← ms ρ; F ds
abbrev mB1 (F : List D → M D) (m : TM) : TM := mCall F (aCons m aNil)
abbrev mOp (f : D → D → M D) (m n : TM) : TM := fun ρ => do let x ← m ρ; let y ← n ρ; f x y
abbrev mChain (f g : D → D → M D) (m n l : TM) : TM := fun ρ => do let x ← m ρ; let y ← n ρ; let z ← f x y; let k ← asB z; if k = true then do let w ← l ρ; g y w else pure (.bl false)
abbrev TMO := Env0 → M (Option Int)
abbrev oN : TMO := fun _ => pure none
abbrev oS (m : TM) : TMO := fun ρ => do let x ← m ρ; let i ← asI x; pure (some i)
abbrev mSl (m : TM) (lo hi : TMO) : TM := fun ρ => do let x ← m ρ; let i ← lo ρ; let j ← hi ρ; sliceD x i j
abbrev mRev (m : TM) : TM := fun ρ => do let x ← m ρ; revD x
abbrev mIsi (m : TM) (T : String) : TM := fun ρ => do let x ← m ρ; isiD (fun t => sub1 t T) x
abbrev mIsi2 (m : TM) (T U : String) : TM := fun ρ => do let x ← m ρ; isiD (fun t => sub1 t T || sub1 t U) x
abbrev mMt (f : D → List D → M D) (m n : TM) : TM := fun ρ => do let x ← m ρ; asL x; let ds ← (do let y ← n ρ; let ys ← pure []; pure (y :: ys)); f x ds
noncomputable abbrev mComp (mi : Env0 → M Iter) (g : TMG) (t : Env0 → M Bool) (m : TM) (js : List (Option Nat)) : TM := fun ρ => do let it ← mi ρ; let ys ← compAll it g t m (blkM js ρ); newL ys
abbrev TMB := Env0 → M Bool
abbrev bV (m : TM) : TMB := fun ρ => do let x ← m ρ; asB x
abbrev bOp (f : D → D → M D) (m n : TM) : TMB := fun ρ => do let z ← (do let x ← m ρ; let y ← n ρ; f x y); asB z
abbrev bChain (f g : D → D → M D) (m n l : TM) : TMB := fun ρ => do let v ← (do let x ← m ρ; let y ← n ρ; let z ← f x y; let k ← asB z; if k = true then do let w ← l ρ; g y w else pure (.bl false)); asB v
abbrev bChain3 (f g h : D → D → M D) (m n l k : TM) : TMB := fun ρ => do
  let x ← m ρ
  let y ← n ρ
  let z ← f x y
  let i ← asB z
  if i = true then do
    let w ← l ρ
    let z2 ← g y w
    let j ← asB z2
    if j = true then do
      let v ← k ρ
      let z3 ← h w v
      asB z3
    else pure false
  else pure false
abbrev bNot (t : TMB) : TMB := fun ρ => do let c ← t ρ; pure (!c)
abbrev bAnd (t u : TMB) : TMB := fun ρ => do let c ← t ρ; if c = true then u ρ else pure false
abbrev bOr (t u : TMB) : TMB := fun ρ => do let c ← t ρ; if c = true then pure true else u ρ
abbrev bTrue : TMB := fun _ => pure true
abbrev iR1 (m : TM) : Env0 → M Iter := fun ρ => do let ds ← aCons m aNil ρ; rangeI ds
abbrev iR2 (m n : TM) : Env0 → M Iter := fun ρ => do let ds ← aCons m (aCons n aNil) ρ; rangeI2 ds
abbrev iSeq (m : TM) : Env0 → M Iter := fun ρ => do let x ← m ρ; seqI x
abbrev iZip (m n : TM) : Env0 → M Iter := fun ρ => do let ds ← aCons m (aCons n aNil) ρ; zipI ds
abbrev gN (i : Nat) : TMG := fun d ρ => pure (ρ.set i (some d))
abbrev gIt (m n : TM) : TMG := fun d ρ => do let x ← m ρ; let y ← n ρ; setItemD x y d; pure ρ
abbrev sNil : TMS := fun ρ => pure (.nx ρ)
abbrev sCons (m n : TMS) : TMS := fun ρ => do let o ← m ρ; seqO o n
abbrev sEx (me : TM) : TMS := fun ρ => do let _ ← me ρ; pure (.nx ρ)
abbrev sRet (me : TM) : TMS := fun ρ => do let d ← me ρ; pure (.ret d)
abbrev sIf (t : TMB) (m n : TMS) : TMS := fun ρ => do let c ← t ρ; if c = true then m ρ else n ρ
abbrev sSet (i : Nat) (me : TM) : TMS := fun ρ => do let d ← me ρ; pure (.nx (ρ.set i (some d)))
abbrev sAsg (me : TM) (g : TMG) : TMS := fun ρ => do let d ← me ρ; let ρ' ← g d ρ; pure (.nx ρ')
abbrev sPar (i j : Nat) (ms : TMA) : TMS := fun ρ => do let ds ← ms ρ; match ds with | [d1, d2] => pure (.nx ((ρ.set i (some d1)).set j (some d2))) | _ => M.fail
noncomputable abbrev sFor (mi : Env0 → M Iter) (g : TMG) (b : TMS) : TMS := fun ρ => do let it ← mi ρ; forD it g b it.items ρ
abbrev sWhile (k : Nat) (t : TMB) (b : TMS) : TMS := fun ρ => whileD t b k ρ
abbrev sFail : TMS := fun _ => M.fail
structure DefIs (P : Program) (w : World) (K : PySem.W.Frag) (mg : Str → Option Value) (base : Heap) (k : Nat) (x : Str) (ps : List Str) (F : List D → M D) : Prop where
  ex : ∃ f fd, FnOk P w K mg base CX0 k f fd ps (spM K F) ∧ mg x = some (.ref f) ∧ PySem.W.keepIn K (.ref f) = true ∧ Binds K fd ps []
section
variable {X : Cx} {E : XD} {e : Expr} {es : List Expr} {pos : Pos} {ms : TMA}
theorem se_callD {x : Str} {k : Nat} {ps : List Str} {F : List D → M D} {p : Pos} (d : DefIs X.prog X.w X.K X.mg X.base k x ps F) (hr : Room k X.A) (ha : SA X noX (e :: es) ms) (hg : Gl X x := by rfl)
    (hdb : (x == ("__debug__" : Str)) = false := by decide) (he : starEach (e :: es) X.env = (false, eval e X.env) :: starEach es X.env := by rfl) (hpl : (backTo pos (starEach es X.env)).any (·.1) = false := by rfl) :
    SE X noX (.Call (.Name x p) (e :: es) [] pos) (mCall F ms) := by
  obtain ⟨f, fd, h1, h2, h3, h4⟩ := d.ex
  exact se_call h1 hr hg h2 h3 h4 ha hdb he hpl
theorem st_Constant {c j p} {env : Env} : starEach (.Constant c j p :: es) env = (false, eval (.Constant c j p) env) :: starEach es env := rfl
theorem st_Tuple {l k p} {env : Env} : starEach (.Tuple l k p :: es) env = (false, eval (.Tuple l k p) env) :: starEach es env := rfl
theorem st_List {l p} {env : Env} : starEach (.List l p :: es) env = (false, eval (.List l p) env) :: starEach es env := rfl
theorem st_Name {x p} {env : Env} : starEach (.Name x p :: es) env = (false, eval (.Name x p) env) :: starEach es env := rfl
theorem st_Call {f l k p} {env : Env} : starEach (.Call f l k p :: es) env = (false, eval (.Call f l k p) env) :: starEach es env := rfl
theorem st_BinOp {a o b p} {env : Env} : starEach (.BinOp a o b p :: es) env = (false, eval (.BinOp a o b p) env) :: starEach es env := rfl
theorem st_Subscript {a b p} {env : Env} : starEach (.Subscript a b p :: es) env = (false, eval (.Subscript a b p) env) :: starEach es env := rfl
theorem st_Dict {a b p} {env : Env} : starEach (.Dict a b p :: es) env = (false, eval (.Dict a b p) env) :: starEach es env := rfl
theorem st_UnaryOp {a b p} {env : Env} : starEach (.UnaryOp a b p :: es) env = (false, eval (.UnaryOp a b p) env) :: starEach es env := rfl
theorem se_neg {i : Int} {j p} : SE X E (.UnaryOp .USub (.Constant (.int i) j p) pos) (mK (.int (-i))) := by
  refine PE.imp (pe_un un_neg pe_int) fun σ H Q h => ?_
  obtain ⟨ι, S, ρ, rep, re, c⟩ := h
  exact ⟨i, rfl, cont_pure c .refl rep _ (.int _)⟩
theorem se_gintE {x : Str} {i : Int} (hg : Gl X x) (hm : ∃ t, X.mg x = some (.int i t)) (hd : (x == ("__debug__" : Str)) = false := by decide) : SE X E (.Name x pos) (mK (.int i)) :=
  let ⟨_, h⟩ := hm
  se_gint hg h hd
theorem ss_any {st : Stmt} : SS X E st sFail := by
  intro pins s σ H T I h
  obtain ⟨ι, S, ρ, rep, re, c⟩ := h
  exact (cont_fail c).elim
def csOk (fs : Scope) (N : List Str) (scope : Scope) (Nc : List Str) (js : List (Option Nat)) : Bool :=
  (scope.kind == .function) && scope.names.all (fun y => y.2 != .cell) && scope.names.all (fun y => y.2 != .local || scope.names.lookup y.1 == some .local) &&
    scope.names.all (fun y => y.2 != .free || (fs.names.lookup y.1 == some .cell || fs.names.lookup y.1 == some .free)) && (js.length == Nc.length) &&
    (Nc.zip js).all (fun p => match p.2 with | none => true | some j => N[j]? == some p.1 && scope.names.lookup p.1 == some .free)
theorem mkCS {scope : Scope} {Nc : List Str} {js : List (Option Nat)} (fs : Scope) (N : List Str) (he : ∀ x, X.env.kindOf x = fs.names.lookup x) (hN : X.N = N) (h : csOk fs N scope Nc js = true) : CompScope X scope Nc js := by
  unfold csOk at h
  simp only [Bool.and_eq_true, List.all_eq_true, beq_iff_eq, bne_iff_ne, Bool.or_eq_true] at h
  obtain ⟨⟨⟨⟨⟨h1, h2⟩, h3⟩, h4⟩, h5⟩, h6⟩ := h
  refine ⟨h1, h2, fun y hy e => (h3 y hy).resolve_left fun z => z e, fun y hy e => ?_, h5, fun i x j e1 e2 => ?_⟩
  · rw [he]
    exact (h4 y hy).resolve_left fun z => z e
  · have hz : (Nc.zip js)[i]? = some (x, some j) := List.getElem?_zip_eq_some.mpr ⟨e1, e2⟩
    have := h6 _ (List.mem_of_getElem? hz)
    simp only [Bool.and_eq_true, beq_iff_eq] at this
    rw [hN]
    exact this
theorem hu64 {A : Around} {k : Nat} (hr : Room k A) : A.units + 64 < cLine := by have := hr.un; omega
theorem hu8 {A : Around} {k : Nat} (hr : Room k A) : A.units + 8 < cLine := by have := hr.un; omega
theorem hu0 {A : Around} {k : Nat} (hr : Room k A) : A.units < cLine := by have := hr.un; omega
end
section
variable {P : Program} {w : World} {K : PySem.W.Frag} {mg : Str → Option Value} {base : Heap}
theorem def_mk {x qual : Str} {st : Stmt} {f : Addr} {fd : FuncData} {N ps : List Str} {k : Nat} {m : TMS} {F0 : List D → M D} (F : Fun K x qual st f fd) (hm : mg x = some (.ref f)) (hb : Binds K fd ps []) (Sc : FnScope N ps (defScope st)) (hF : F0 = fnD N.length ps.length m)
    (hbody : ∀ (cdv : Value) (A : Around) (outer : List Env) (s : Shared) (H : Hp) (E : XK), Room k (A.deeper (envOfC qual (defScope st) s.heap.objs.size f cdv)) →
      SSs (cxOf CX0 P w K mg base N qual (defScope st) f cdv A outer s H E).nox noX (defBody st) m) : DefIs P w K mg base (k + 1) x ps F0 :=
  ⟨f, fd, by rw [hF]; exact fn_M F Sc hbody, hm, F.kp, hb⟩
theorem fn_mk {x qual : Str} {st : Stmt} {f : Addr} {fd : FuncData} {N ps : List Str} {k : Nat} {m : TMS} {F0 : List D → M D} (F : Fun K x qual st f fd) (Sc : FnScope N ps (defScope st)) (hF : F0 = fnD N.length ps.length m)
    (hbody : ∀ (cdv : Value) (A : Around) (outer : List Env) (s : Shared) (H : Hp) (E : XK), Room k (A.deeper (envOfC qual (defScope st) s.heap.objs.size f cdv)) →
      SSs (cxOf CX0 P w K mg base N qual (defScope st) f cdv A outer s H E).nox noX (defBody st) m) : FnOk P w K mg base CX0 (k + 1) f fd ps (spM K F0) := by
  rw [hF]; exact fn_M F Sc hbody
end
end S3
end
section
set_option maxRecDepth 100000
set_option maxHeartbeats 4000000
namespace S3
open PySem PySem.Spec PyProof.Rows L2 S4
def litAll (f : Expr → Option D) : List Expr → Option (List D)
  | [] => some []
  | e :: es => match f e, litAll f es with
    | some d, some ds => some (d :: ds)
    | _, _ => none
def litE : Nat → Expr → Option D
  | _, .Constant .none _ _ => some .non
  | _, .Constant (.bool b) _ _ => some (.bl b)
  | _, .Constant (.int i) _ _ => some (.int i)
  | _, .Constant (.str x) _ _ => some (.str x)
  | _, .UnaryOp .USub (.Constant (.int i) _ _) _ => some (.int (-i))
  | n + 1, .Tuple es _ _ => match litAll (litE n) es with
    | some ds => if ds.length ≤ 100 then some (.tup ds) else none
    | none => none
  | _, _ => none
section
variable {X : Cx} {E : XD}
theorem SE.mono {e : Expr} {m m' : TM} (h : SE X E e m) (k : ∀ ρ S r, m' ρ S = some r → m ρ S = some r) : SE X E e m' := PE.imp h fun σ H Q q => by
  obtain ⟨ι, S, ρ, rep, re, r, S', e, c⟩ := q
  exact ⟨ι, S, ρ, rep, re, r, S', k ρ S _ e, c⟩
theorem lit_star {n : Nat} {e : Expr} {d : D} (h : litE n e = some d) (es : List Expr) (env : Env) : starEach (e :: es) env = (false, eval e env) :: starEach es env := by
  cases e with
  | Constant c j p => exact st_Constant
  | UnaryOp o a p => exact st_UnaryOp
  | Tuple l k p => exact st_Tuple
  | _ => cases n <;> cases h
theorem lit_all {n : Nat} (ih : ∀ e d, litE n e = some d → SE X E e (mK d)) : ∀ {es : List Expr} {ds : List D}, litAll (litE n) es = some ds → SA X E es (fun _ => pure ds)
  | [], ds, h => by cases h; exact sa_nil
  | e :: es, ds, h => by
    unfold litAll at h
    cases q : litE n e with
    | none => rw [q] at h; cases h
    | some d =>
      rw [q] at h
      cases q2 : litAll (litE n) es with
      | none => rw [q2] at h; cases h
      | some ds' =>
        rw [q2] at h
        cases h
        exact sa_cons (ih e d q) (lit_all ih q2) (lit_star q _ _)
theorem lit_ok : ∀ (n : Nat) (e : Expr) (d : D), litE n e = some d → SE X E e (mK d) := by
  intro n
  induction n with
  | zero =>
    intro e d h
    unfold litE at h
    split at h
    · cases h; exact se_non
    · cases h; exact se_bl
    · cases h; exact se_int
    · cases h; exact se_str
    · cases h; exact se_neg
    · next h' => exact absurd h' (by omega)
    · cases h
  | succ n ih =>
    intro e d h
    unfold litE at h
    split at h
    · cases h; exact se_non
    · cases h; exact se_bl
    · cases h; exact se_int
    · cases h; exact se_str
    · cases h; exact se_neg
    · next m es k p hm =>
      cases hm
      cases q : litAll (litE n) es with
      | none => rw [q] at h; cases h
      | some ds =>
        rw [q] at h
        simp only at h
        split at h
        · next hl =>
          cases h
          refine (se_tup (lit_all ih q)).mono fun ρ S r hr => ?_
          have e : (do let ds' ← (pure ds : M (List D)); mkTup ds') = (pure (.tup ds) : M D) := by
            show mkTup ds = _
            unfold mkTup
            rw [if_pos (by unfold lim; omega)]
          rw [e]; exact hr
        · cases h
    · cases h
theorem se_lit {e : Expr} {d : D} (n : Nat) (h : litE n e = some d) : SE X E e (mK d) := lit_ok n e d h
end
def aConsD (m : TM) (ms : TMA) : TMA := aCons m ms
section
variable {X : Cx} {E : XD}
theorem sa_consD {e : Expr} {es : List Expr} {m : TM} {ms : TMA} (ha : SE X E e m) (hr : SA X E es ms) (hs : starEach (e :: es) X.env = (false, eval e X.env) :: starEach es X.env) : SA X E (e :: es) (aConsD m ms) := sa_cons ha hr hs
theorem sw_List {l p t n} {env : Env} : swapsWith (.List l p) t n env = pure false := rfl
theorem sw_BinOp {a o b p t n} {env : Env} : swapsWith (.BinOp a o b p) t n env = pure false := rfl
end
end S3
end
section
set_option maxRecDepth 100000
set_option maxHeartbeats 8000000
namespace W
open PySem PySem.Spec PyProof.Rows L2 S3 S4
def top (i : Nat) : Stmt := PySem.Challenge.pw_tiewebs_k01_webs_known.main.body.getD i (.Pass ⟨0, 0, 0, 0⟩)
structure Txt (K : PySem.W.Frag) (mg : Str → Option Value) : Prop where
  b_all : mg "all" = none
  b_bool : mg "bool" = none
  b_int : mg "int" = none
  b_isinstance : mg "isinstance" = none
  b_len : mg "len" = none
  b_list : mg "list" = none
  b_max : mg "max" = none
  b_min : mg "min" = none
  b_range : mg "range" = none
  b_set : mg "set" = none
  b_sorted : mg "sorted" = none
  b_str : mg "str" = none
  b_tuple : mg "tuple" = none
  b_zip : mg "zip" = none
  g_MOST_PLACES : ∃ t, mg "MOST_PLACES" = some (.int 14 t)
section
variable {P : Program} {w : World} {K : PySem.W.Frag} {mg : Str → Option Value} {base : Heap}
noncomputable def m_is_whole : TMS := sRet (mAnd (mIsi (mV 0) "int") (mNot (mIsi (mV 0) "bool")))
noncomputable def F_is_whole : List D → M D := fnD 1 1 m_is_whole
theorem sc_is_whole : FnScope ["thing"] ["thing"] (defScope (top 2)) := ⟨rfl, rfl, rfl, by decide +kernel, rfl, by decide +kernel, by decide +kernel⟩
noncomputable def m_is_pair : TMS := sRet (mAnd (mIsi (mV 0) "tuple") (mOp eqD (mB1 lenD (mV 0)) (mK (.int 2))))
noncomputable def F_is_pair : List D → M D := fnD 1 1 m_is_pair
theorem sc_is_pair : FnScope ["thing"] ["thing"] (defScope (top 3)) := ⟨rfl, rfl, rfl, by decide +kernel, rfl, by decide +kernel, by decide +kernel⟩
noncomputable def m_is_rising_t1 : TMB := bTrue
noncomputable def m_is_rising_e2 : TM := mOp ltD (mV 0) (mV 1)
noncomputable def m_is_rising : TMS := sRet (mB1 allD (mComp (iZip (mV 0) (mSl (mV 0) (oS (mK (.int 1))) (oN))) (gTupD 2 (gsCons (gN 0) (gsCons (gN 1) (gsNil)))) m_is_rising_t1 m_is_rising_e2 [none, none]))
noncomputable def F_is_rising : List D → M D := fnD 1 1 m_is_rising
theorem sc_is_rising : FnScope ["things"] ["things"] (defScope (top 6)) := ⟨rfl, rfl, rfl, by decide +kernel, rfl, by decide +kernel, by decide +kernel⟩
noncomputable def m__law_cell_at : TMS := sCons (sIf (bOp ltD (mV 1) (mB1 lenD (mV 0))) (sRet (mOp ixD (mV 0) (mV 1))) (sNil)) (sRet (mK (.int 0)))
noncomputable def F__law_cell_at : List D → M D := fnD 2 2 m__law_cell_at
theorem sc__law_cell_at : FnScope ["_law_script", "_law_k"] ["_law_script", "_law_k"] (defScope (top 9)) := ⟨rfl, rfl, rfl, by decide +kernel, rfl, by decide +kernel, by decide +kernel⟩
noncomputable def m__law_take : TMS := sCons (sIf (bV (mOp ixD (mV 0) (mK (.int 1)))) (sCons (sSet 2 (mOp modD (mOp ixD (mV 0) (mK (.int 0))) (mV 1))) (sCons (sAsg (mOp fdivD (mOp ixD (mV 0) (mK (.int 0))) (mV 1)) (gIt (mV 0) (mK (.int 0)))) (sRet (mV 2)))) (sNil)) (sCons (sAsg (mOp modD (mOp addD (mOp mulD (mOp ixD (mV 0) (mK (.int 0))) (mK (.int 48271))) (mK (.int 29))) (mK (.int 2147483647))) (gIt (mV 0) (mK (.int 0)))) (sCons (sSet 3 (mOp modD (mOp addD (mOp addD (mOp mulD (mOp ixD (mV 0) (mK (.int 0))) (mOp ixD (mV 0) (mK (.int 0)))) (mOp mulD (mK (.int 39373)) (mOp ixD (mV 0) (mK (.int 0))))) (mK (.int 7))) (mK (.int 2147483629)))) (sCons (sSet 3 (mOp modD (mOp addD (mOp mulD (mV 3) (mV 3)) (mOp mulD (mK (.int 16807)) (mV 3))) (mK (.int 2147483587)))) (sRet (mOp modD (mOp fdivD (mV 3) (mK (.int 8))) (mV 1))))))
noncomputable def F__law_take : List D → M D := fnD 4 2 m__law_take
theorem sc__law_take : FnScope ["_law_state_here", "_law_many", "_law_found", "_law_stirred"] ["_law_state_here", "_law_many"] (defScope (top 11)) := ⟨rfl, rfl, rfl, by decide +kernel, rfl, by decide +kernel, by decide +kernel⟩
noncomputable def m__law_pairs_t1 : TMB := bTrue
noncomputable def m__law_pairs_e2 : TM := mTup (aCons (mV 1) (aCons (mV 0) (aNil)))
noncomputable def m__law_pairs_b3 : TMS := sEx (mMt extendD (mV 1) (mComp (iR2 (mOp addD (mV 2) (mK (.int 1))) (mV 0)) (gN 0) m__law_pairs_t1 m__law_pairs_e2 [none, some 2]))
noncomputable def m__law_pairs : TMS := sCons (sSet 1 (mLst (aNil))) (sCons (sFor (iR1 (mV 0)) (gN 2) m__law_pairs_b3) (sRet (mV 1)))
noncomputable def F__law_pairs : List D → M D := fnD 3 1 m__law_pairs
theorem sc__law_pairs : FnScope ["_law_many", "_law_found", "_law_a"] ["_law_many"] (defScope (top 12)) := ⟨rfl, rfl, rfl, by decide +kernel, rfl, by decide +kernel, by decide +kernel⟩
noncomputable def m__law_whole : TMS := sRet (mAnd (mIsi (mV 0) "int") (mNot (mIsi (mV 0) "bool")))
noncomputable def F__law_whole : List D → M D := fnD 1 1 m__law_whole
theorem sc__law_whole : FnScope ["_law_thing"] ["_law_thing"] (defScope (top 16)) := ⟨rfl, rfl, rfl, by decide +kernel, rfl, by decide +kernel, by decide +kernel⟩
noncomputable def m__law_same : TMS := sCons (sIf (bV (mIsi2 (mV 1) "tuple" "list")) (sCons (sIf (bOr (bOp neD (mIsi (mV 0) "tuple") (mIsi (mV 1) "tuple")) (bOp neD (mIsi (mV 0) "list") (mIsi (mV 1) "list"))) (sRet (mK (.bl false))) (sNil)) (sCons (sIf (bOp neD (mB1 lenD (mV 0)) (mB1 lenD (mV 1))) (sRet (mK (.bl false))) (sNil)) (sFail))) (sNil)) (sRet (mAnd (mOp eqD (mV 0) (mV 1)) (mOp eqD (mIsi (mV 0) "bool") (mIsi (mV 1) "bool"))))
noncomputable def F__law_same : List D → M D := fnD 2 2 m__law_same
theorem sc__law_same : FnScope ["_law_found", "_law_due"] ["_law_found", "_law_due"] (defScope (top 19)) := ⟨rfl, rfl, rfl, by decide +kernel, rfl, by decide +kernel, by decide +kernel⟩
noncomputable def m_is_place : TMS := sRet (mAnd (mCall F_is_whole (aCons (mV 1) (aNil))) (mChain leD ltD (mK (.int 0)) (mV 1) (mV 0)))
noncomputable def F_is_place : List D → M D := fnD 2 2 m_is_place
theorem sc_is_place : FnScope ["many", "thing"] ["many", "thing"] (defScope (top 4)) := ⟨rfl, rfl, rfl, by decide +kernel, rfl, by decide +kernel, by decide +kernel⟩
noncomputable def m__law_state : TMS := sCons (sSet 2 (mCall F__law_cell_at (aCons (mV 0) (aCons (mV 1) (aNil))))) (sCons (sIf (bOp geD (mV 2) (mOp powD (mK (.int 10)) (mK (.int 18)))) (sRet (mLst (aCons (mOp subD (mV 2) (mOp powD (mK (.int 10)) (mK (.int 18)))) (aCons (mK (.bl true)) (aNil))))) (sNil)) (sRet (mLst (aCons (mOp modD (mV 2) (mK (.int 2147483647))) (aCons (mK (.bl false)) (aNil))))))
noncomputable def F__law_state : List D → M D := fnD 3 2 m__law_state
theorem sc__law_state : FnScope ["_law_script", "_law_k", "_law_cell"] ["_law_script", "_law_k"] (defScope (top 10)) := ⟨rfl, rfl, rfl, by decide +kernel, rfl, by decide +kernel, by decide +kernel⟩
noncomputable def m__law_mixed_row_b1 : TMS := sEx (mMt appendD (mV 3) (mMt popAtD (mV 2) (mCall F__law_take (aCons (mV 0) (aCons (mB1 lenD (mV 2)) (aNil))))))
noncomputable def m__law_mixed_row : TMS := sCons (sSet 2 (mB1 listD (mV 1))) (sCons (sSet 3 (mLst (aNil))) (sCons (sWhile 64 (bOp neD (mV 2) (mLst (aNil))) m__law_mixed_row_b1) (sRet (mV 3))))
noncomputable def F__law_mixed_row : List D → M D := fnD 4 2 m__law_mixed_row
theorem sc__law_mixed_row : FnScope ["_law_state_here", "_law_things", "_law_left", "_law_found"] ["_law_state_here", "_law_things"] (defScope (top 13)) := ⟨rfl, rfl, rfl, by decide +kernel, rfl, by decide +kernel, by decide +kernel⟩
noncomputable def m__law_great_web_b1 : TMS := sCons (sSet 4 (mCall F__law_take (aCons (mV 0) (aCons (mV 1) (aNil))))) (sCons (sSet 5 (mOp modD (mOp addD (mOp addD (mV 4) (mK (.int 1))) (mCall F__law_take (aCons (mV 0) (aCons (mOp subD (mV 1) (mK (.int 1))) (aNil))))) (mV 1))) (sEx (mMt appendD (mV 2) (mTup (aCons (mCall minD (aCons (mV 4) (aCons (mV 5) (aNil)))) (aCons (mCall maxD (aCons (mV 4) (aCons (mV 5) (aNil)))) (aNil)))))))
noncomputable def m__law_great_web : TMS := sCons (sSet 1 (mOp addD (mK (.int 8)) (mCall F__law_take (aCons (mV 0) (aCons (mK (.int 7)) (aNil)))))) (sCons (sSet 2 (mLst (aNil))) (sCons (sFor (iR1 (mCall F__law_take (aCons (mV 0) (aCons (mK (.int 12)) (aNil))))) (gN 3) m__law_great_web_b1) (sRet (mTup (aCons (mV 1) (aCons (mB1 tupleD (mB1 sortSetD (mV 2))) (aNil)))))))
noncomputable def F__law_great_web : List D → M D := fnD 6 1 m__law_great_web
theorem sc__law_great_web : FnScope ["_law_state_here", "_law_many", "_law_ties", "_law_turn", "_law_one", "_law_other"] ["_law_state_here"] (defScope (top 15)) := ⟨rfl, rfl, rfl, by decide +kernel, rfl, by decide +kernel, by decide +kernel⟩
noncomputable def m__law_is_web_b1 : TMS := sCons (sIf (bOr (bNot (bV (mIsi (mV 1) "tuple"))) (bOr (bOp neD (mB1 lenD (mV 1)) (mK (.int 2))) (bOr (bNot (bV (mCall F__law_whole (aCons (mOp ixD (mV 1) (mK (.int 0))) (aNil))))) (bNot (bV (mCall F__law_whole (aCons (mOp ixD (mV 1) (mK (.int 1))) (aNil)))))))) (sRet (mK (.bl false))) (sNil)) (sIf (bNot (bChain3 leD ltD ltD (mK (.int 0)) (mOp ixD (mV 1) (mK (.int 0))) (mOp ixD (mV 1) (mK (.int 1))) (mOp ixD (mV 0) (mK (.int 0))))) (sRet (mK (.bl false))) (sNil))
noncomputable def m__law_is_web : TMS := sCons (sIf (bOr (bNot (bV (mIsi (mV 0) "tuple"))) (bOr (bOp neD (mB1 lenD (mV 0)) (mK (.int 2))) (bOr (bNot (bV (mCall F__law_whole (aCons (mOp ixD (mV 0) (mK (.int 0))) (aNil))))) (bNot (bChain leD leD (mK (.int 0)) (mOp ixD (mV 0) (mK (.int 0))) (mK (.int 14))))))) (sRet (mK (.bl false))) (sNil)) (sCons (sIf (bNot (bV (mIsi (mOp ixD (mV 0) (mK (.int 1))) "tuple"))) (sRet (mK (.bl false))) (sNil)) (sCons (sFor (iSeq (mOp ixD (mV 0) (mK (.int 1)))) (gN 1) m__law_is_web_b1) (sRet (mOp eqD (mB1 listD (mOp ixD (mV 0) (mK (.int 1)))) (mB1 sortSetD (mOp ixD (mV 0) (mK (.int 1))))))))
noncomputable def F__law_is_web : List D → M D := fnD 2 1 m__law_is_web
theorem sc__law_is_web : FnScope ["_law_thing", "_law_tie"] ["_law_thing"] (defScope (top 17)) := ⟨rfl, rfl, rfl, by decide +kernel, rfl, by decide +kernel, by decide +kernel⟩
noncomputable def m__law_bad_web : TMS := sCons (sSet 1 (mLst (aConsD (mK .non) (aConsD (mK (.int 0)) (aConsD (mK (.tup [])) (aConsD (mK (.tup [.int 15, .tup []])) (aConsD (mK (.tup [.int (-1), .tup []])) (aConsD (mK (.tup [.bl true, .tup []])) (aConsD (mTup (aCons (mK (.int 2)) (aCons (mLst (aNil)) (aNil)))) (aConsD (mLst (aCons (mK (.int 2)) (aCons (mK (.tup [])) (aNil)))) (aConsD (mK (.tup [.int 2, .tup [.tup [.int 1, .int 0]]])) (aConsD (mK (.tup [.int 2, .tup [.tup [.int 0, .int 0]]])) (aConsD (mK .emp) (aConsD (mK (.str "2:")) (aNil))))))))))))))) (sCons (sSet 1 (mOp addD (mV 1) (mLst (aConsD (mK (.tup [.int 2, .tup [.tup [.int 0, .int 1], .tup [.int 0, .int 1]]])) (aConsD (mK (.tup [.int 3, .tup [.tup [.int 0, .int 2], .tup [.int 0, .int 1]]])) (aConsD (mK (.tup [.int 2, .tup [.tup [.int 0, .int 2]]])) (aConsD (mK (.tup [.int 2, .tup [.tup [.int 0, .bl true]]])) (aConsD (mK (.tup [.int 2, .tup [.tup [.int 0, .int 1, .int 1]]])) (aNil))))))))) (sCons (sSet 1 (mOp addD (mV 1) (mLst (aConsD (mK (.tup [.int 2, .tup [.int 0, .int 1]])) (aConsD (mK (.tup [.int 2, .non])) (aConsD (mK (.tup [.int 2, .tup [], .tup []])) (aConsD (mK (.tup [.int 2])) (aConsD (mTup (aCons (mK (.int 2)) (aCons (mTup (aCons (mLst (aCons (mK (.int 0)) (aCons (mK (.int 1)) (aNil)))) (aNil))) (aNil)))) (aConsD (mK (.tup [.int 2, .tup [.non]])) (aConsD (mK (.tup [.str "2", .tup []])) (aConsD (mK (.tup [.int 0, .tup [.tup [.int 0, .int 1]]])) (aNil)))))))))))) (sRet (mOp ixD (mV 1) (mCall F__law_take (aCons (mV 0) (aCons (mK (.int 25)) (aNil))))))))
noncomputable def F__law_bad_web : List D → M D := fnD 2 1 m__law_bad_web
theorem sc__law_bad_web : FnScope ["_law_state_here", "_law_some"] ["_law_state_here"] (defScope (top 18)) := ⟨rfl, rfl, rfl, by decide +kernel, rfl, by decide +kernel, by decide +kernel⟩
noncomputable def m__law_bent : TMS := sCons (sAsg (mV 1) (gTupD 2 (gsCons (gN 2) (gsCons (gN 3) (gsNil))))) (sCons (sSet 4 (mCall F__law_take (aCons (mV 0) (aCons (mOp addD (mB1 lenD (mV 3)) (mK (.int 1))) (aNil))))) (sCons (sPar 5 6 (aCons (mCall F__law_take (aCons (mV 0) (aCons (mOp addD (mV 2) (mK (.int 1))) (aNil)))) (aCons (mCall F__law_take (aCons (mV 0) (aCons (mOp addD (mV 2) (mK (.int 1))) (aNil)))) (aNil)))) (sCons (sSet 7 (mLst (aConsD (mTup (aCons (mV 5) (aCons (mV 6) (aNil)))) (aConsD (mTup (aCons (mV 6) (aCons (mV 5) (aNil)))) (aConsD (mTup (aCons (mV 5) (aCons (mV 5) (aNil)))) (aConsD (mTup (aCons (mK (.int (-1))) (aCons (mV 5) (aNil)))) (aConsD (mTup (aCons (mV 5) (aCons (mK (.bl true)) (aNil)))) (aConsD (mTup (aCons (mV 5) (aNil))) (aConsD (mTup (aCons (mV 5) (aCons (mV 6) (aCons (mV 6) (aNil))))) (aConsD (mLst (aCons (mV 5) (aCons (mV 6) (aNil)))) (aConsD (mK .non) (aConsD (mK (.str "01")) (aConsD (mV 5) (aConsD (mTup (aCons (mV 5) (aCons (mK .non) (aNil)))) (aConsD (mTup (aCons (mTup (aCons (mV 5) (aCons (mV 6) (aNil)))) (aNil))) (aNil)))))))))))))))) (sCons (sSet 7 (mOp ixD (mV 7) (mCall F__law_take (aCons (mV 0) (aCons (mK (.int 13)) (aNil)))))) (sCons (sSet 8 (mLst (aCons (mTup (aCons (mV 2) (aCons (mOp addD (mSl (mV 3) (oN) (oS (mV 4))) (mSl (mV 3) (oS (mOp addD (mV 4) (mK (.int 1)))) (oN))) (aNil)))) (aCons (mTup (aCons (mV 2) (aCons (mOp addD (mOp addD (mSl (mV 3) (oN) (oS (mV 4))) (mTup (aCons (mV 7) (aNil)))) (mSl (mV 3) (oS (mV 4)) (oN))) (aNil)))) (aCons (mTup (aCons (mOp subD (mV 2) (mK (.int 1))) (aCons (mV 3) (aNil)))) (aNil)))))) (sCons (sSet 8 (mOp addD (mV 8) (mLst (aCons (mTup (aCons (mV 2) (aCons (mOp addD (mOp addD (mSl (mV 3) (oN) (oS (mV 4))) (mTup (aCons (mV 7) (aNil)))) (mSl (mV 3) (oS (mOp addD (mV 4) (mK (.int 1)))) (oN))) (aNil)))) (aCons (mTup (aCons (mV 2) (aCons (mOp addD (mOp addD (mSl (mV 3) (oN) (oS (mV 4))) (mSl (mV 3) (oS (mV 4)) (oS (mOp addD (mV 4) (mK (.int 1)))))) (mSl (mV 3) (oS (mV 4)) (oN))) (aNil)))) (aNil)))))) (sCons (sSet 8 (mOp addD (mV 8) (mLst (aConsD (mTup (aCons (mV 2) (aCons (mRev (mV 3)) (aNil)))) (aConsD (mTup (aCons (mV 2) (aCons (mB1 listD (mV 3)) (aNil)))) (aConsD (mLst (aCons (mV 2) (aCons (mV 3) (aNil)))) (aConsD (mTup (aCons (mOp addD (mV 2) (mK (.int 1))) (aCons (mV 3) (aNil)))) (aConsD (mTup (aCons (mV 2) (aNil))) (aConsD (mTup (aCons (mV 3) (aCons (mV 2) (aNil)))) (aNil)))))))))) (sCons (sSet 8 (mOp addD (mV 8) (mLst (aConsD (mTup (aCons (mV 2) (aCons (mV 3) (aCons (mK (.tup [])) (aNil))))) (aConsD (mTup (aCons (mK (.bl true)) (aCons (mV 3) (aNil)))) (aConsD (mTup (aCons (mB1 strD (mV 2)) (aCons (mV 3) (aNil)))) (aConsD (mTup (aCons (mK (.int 15)) (aCons (mV 3) (aNil)))) (aNil)))))))) (sRet (mOp ixD (mV 8) (mCall F__law_take (aCons (mV 0) (aCons (mK (.int 15)) (aNil))))))))))))))
noncomputable def F__law_bent : List D → M D := fnD 9 2 m__law_bent
theorem sc__law_bent : FnScope ["_law_state_here", "_law_web_here", "_law_many", "_law_ties", "_law_at", "_law_a", "_law_b", "_law_odd", "_law_some"] ["_law_state_here", "_law_web_here"] (defScope (top 20)) := ⟨rfl, rfl, rfl, by decide +kernel, rfl, by decide +kernel, by decide +kernel⟩
noncomputable def m_is_tie : TMS := sCons (sIf (bNot (bV (mCall F_is_pair (aCons (mV 1) (aNil))))) (sRet (mK (.bl false))) (sNil)) (sCons (sAsg (mV 1) (gTupD 2 (gsCons (gN 2) (gsCons (gN 3) (gsNil))))) (sRet (mAnd (mCall F_is_place (aCons (mV 0) (aCons (mV 2) (aNil)))) (mAnd (mCall F_is_place (aCons (mV 0) (aCons (mV 3) (aNil)))) (mOp ltD (mV 2) (mV 3))))))
noncomputable def F_is_tie : List D → M D := fnD 4 2 m_is_tie
theorem sc_is_tie : FnScope ["many", "thing", "low", "high"] ["many", "thing"] (defScope (top 5)) := ⟨rfl, rfl, rfl, by decide +kernel, rfl, by decide +kernel, by decide +kernel⟩
noncomputable def m__law_web_t1 : TMB := bOp ltD (mCall F__law_take (aCons (mV 1) (aCons (mK (.int 8)) (aNil)))) (mOp ixD (mLst (aCons (mK (.int 2)) (aCons (mK (.int 4)) (aCons (mK (.int 6)) (aNil))))) (mOp modD (mV 2) (mK (.int 3))))
noncomputable def m__law_web_e2 : TM := mV 0
noncomputable def m__law_web_b3 : TMS := sEx (mMt appendD (mV 4) (mB1 tupleD (mB1 sortedD (mLst (aCons (mOp ixD (mV 5) (mV 6)) (aCons (mOp ixD (mV 5) (mOp ixD (mLst (aConsD (mOp subD (mV 6) (mK (.int 1))) (aConsD (mOp subD (mV 6) (mK (.int 1))) (aConsD (mK (.int 0)) (aConsD (mOp fdivD (mV 6) (mK (.int 2))) (aNil)))))) (mOp subD (mV 3) (mK (.int 3))))) (aNil)))))))
noncomputable def m__law_web_t4 : TMB := bOp eqD (mCall F__law_take (aCons (mV 1) (aCons (mK (.int 12)) (aNil)))) (mK (.int 0))
noncomputable def m__law_web_e5 : TM := mV 0
noncomputable def m__law_web_t6 : TMB := bOp neD (mOp inD (mV 0) (mV 1)) (mOp inD (mV 0) (mV 2))
noncomputable def m__law_web_e7 : TM := mV 0
noncomputable def m__law_web : TMS := sCons (sSet 2 (mCall maxD (aCons (mK (.int 0)) (aCons (mOp subD (mV 1) (mOp ixD (mLst (aConsD (mK (.int 0)) (aConsD (mK (.int 0)) (aConsD (mK (.int 1)) (aConsD (mK (.int 0)) (aConsD (mK (.int 2)) (aConsD (mK (.int 1)) (aConsD (mK (.int 3)) (aConsD (mV 1) (aNil)))))))))) (mCall F__law_take (aCons (mV 0) (aCons (mK (.int 8)) (aNil)))))) (aNil))))) (sCons (sSet 3 (mCall F__law_take (aCons (mV 0) (aCons (mK (.int 7)) (aNil))))) (sCons (sSet 4 (mComp (iSeq (mCall F__law_pairs (aCons (mV 2) (aNil)))) (gN 0) m__law_web_t1 m__law_web_e2 [none, some 0, some 3])) (sCons (sSet 5 (mCall F__law_mixed_row (aCons (mV 0) (aCons (mB1 listRangeD (mV 2)) (aNil))))) (sCons (sIf (bOp gtD (mV 3) (mK (.int 2))) (sCons (sSet 4 (mLst (aNil))) (sCons (sFor (iR2 (mK (.int 1)) (mV 2)) (gN 6) m__law_web_b3) (sCons (sIf (bAnd (bOp eqD (mV 3) (mK (.int 4))) (bOp gtD (mV 2) (mK (.int 2)))) (sEx (mMt appendD (mV 4) (mB1 tupleD (mB1 sortedD (mLst (aCons (mOp ixD (mV 5) (mK (.int 0))) (aCons (mOp ixD (mV 5) (mOp subD (mV 2) (mK (.int 1)))) (aNil)))))))) (sNil)) (sCons (sSet 7 (mComp (iSeq (mCall F__law_pairs (aCons (mV 2) (aNil)))) (gN 0) m__law_web_t4 m__law_web_e5 [none, some 0])) (sSet 4 (mComp (iSeq (mCall F__law_pairs (aCons (mV 2) (aNil)))) (gN 0) m__law_web_t6 m__law_web_e7 [none, some 4, some 7])))))) (sNil)) (sRet (mTup (aCons (mV 2) (aCons (mB1 tupleD (mB1 sortedD (mV 4))) (aNil)))))))))
noncomputable def F__law_web : List D → M D := fnD 8 2 m__law_web
theorem sc__law_web : FnScope ["_law_state_here", "_law_most", "_law_many", "_law_way", "_law_ties", "_law_row", "_law_at", "_law_odd"] ["_law_state_here", "_law_most"] (defScope (top 14)) := ⟨rfl, rfl, rfl, by decide +kernel, rfl, by decide +kernel, by decide +kernel⟩
noncomputable def m_is_web_t1 : TMB := bTrue
noncomputable def m_is_web_e2 : TM := mCall F_is_tie (aCons (mV 1) (aCons (mV 0) (aNil)))
noncomputable def m_is_web : TMS := sCons (sIf (bNot (bV (mCall F_is_pair (aCons (mV 0) (aNil))))) (sRet (mK (.bl false))) (sNil)) (sCons (sAsg (mV 0) (gTupD 2 (gsCons (gN 1) (gsCons (gN 2) (gsNil))))) (sCons (sIf (bOr (bNot (bV (mCall F_is_whole (aCons (mV 1) (aNil))))) (bOr (bNot (bChain leD leD (mK (.int 0)) (mV 1) (mK (.int 14)))) (bNot (bV (mIsi (mV 2) "tuple"))))) (sRet (mK (.bl false))) (sNil)) (sRet (mAnd (mB1 allD (mComp (iSeq (mV 2)) (gN 0) m_is_web_t1 m_is_web_e2 [none, some 1])) (mCall F_is_rising (aCons (mV 2) (aNil)))))))
noncomputable def F_is_web : List D → M D := fnD 3 1 m_is_web
theorem sc_is_web : FnScope ["thing", "many", "ties"] ["thing"] (defScope (top 7)) := ⟨rfl, rfl, rfl, by decide +kernel, rfl, by decide +kernel, by decide +kernel⟩
noncomputable def m_law_t1 : TMB := bTrue
noncomputable def m_law_e2 : TM := mCall F__law_bent (aCons (mV 1) (aCons (mV 2) (aNil)))
noncomputable def m_law_b3 : TMS := sIf (bNot (bV (mCall F__law_same (aCons (mCall F_is_web (aCons (mV 4) (aNil))) (aCons (mCall F__law_is_web (aCons (mV 4) (aNil))) (aNil)))))) (sRet (mK (.bl false))) (sNil)
noncomputable def m_law_b4 : TMS := sCons (sIf (bOp (isD (!·)) (mCall F_is_web (aCons (mV 3) (aNil))) (mK (.bl true))) (sRet (mK (.bl false))) (sNil)) (sFor (iSeq (mOp addD (mComp (iR1 (mK (.int 4))) (gN 0) m_law_t1 m_law_e2 [none, some 2, some 3]) (mLst (aCons (mCall F__law_bad_web (aCons (mV 2) (aNil))) (aNil))))) (gN 4) m_law_b3)
noncomputable def m_law_b5 : TMS := sCons (sSet 2 (mCall F__law_state (aCons (mV 0) (aCons (mV 1) (aNil))))) (sFor (iSeq (mLst (aCons (mCall F__law_web (aCons (mV 2) (aCons (mK (.int 6)) (aNil)))) (aCons (mCall F__law_great_web (aCons (mV 2) (aNil))) (aNil))))) (gN 3) m_law_b4)
noncomputable def m_law : TMS := sCons (sFor (iR1 (mCall maxD (aCons (mK (.int 1)) (aCons (mCall minD (aCons (mB1 lenD (mV 0)) (aCons (mK (.int 10)) (aNil)))) (aNil))))) (gN 1) m_law_b5) (sRet (mAnd (mOp (isD id) (mCall F_is_web (aCons (mK (.tup [.int 0, .tup []])) (aNil))) (mK (.bl true))) (mOp (isD id) (mCall F_is_web (aCons (mK (.tup [.int 14, .tup [.tup [.int 0, .int 13]]])) (aNil))) (mK (.bl true)))))
noncomputable def F_law : List D → M D := fnD 5 1 m_law
theorem sc_law : FnScope ["_law_script", "_law_k", "_law_state_here", "_law_web_here", "_law_thing"] ["_law_script"] (defScope (top 21)) := ⟨rfl, rfl, rfl, by decide +kernel, rfl, by decide +kernel, by decide +kernel⟩
end
end W
end
section
set_option maxRecDepth 100000
set_option maxHeartbeats 8000000
namespace W
open PySem PySem.Spec PyProof.Rows L2 S3 S4
section
variable {P : Program} {w : World} {K : PySem.W.Frag} {mg : Str → Option Value} {base : Heap}
theorem ok_is_whole {f : Addr} {fd : FuncData} (F : Fun K "is_whole" "is_whole" (top 2) f fd) (hm : mg "is_whole" = some (.ref f)) (T : Txt K mg) : DefIs P w K mg base 1 "is_whole" ["thing"] F_is_whole :=
  def_mk (m := m_is_whole) F hm (F.binds fun _ _ _ _ _ _ us hl => match us, hl with | [_], _ => rfl) sc_is_whole rfl fun cdv A outer s H E hr =>
    ss_one (ss_ret (se_and (se_isi (Ts := "int") T.b_isinstance T.b_int (se_var 0)) (se_one (se_not (se_isi (Ts := "bool") T.b_isinstance T.b_bool (se_var 0))))))
end
end W
end
section
set_option maxRecDepth 100000
set_option maxHeartbeats 8000000
namespace W
open PySem PySem.Spec PyProof.Rows L2 S3 S4
section
variable {P : Program} {w : World} {K : PySem.W.Frag} {mg : Str → Option Value} {base : Heap}
theorem ok_is_pair {f : Addr} {fd : FuncData} (F : Fun K "is_pair" "is_pair" (top 3) f fd) (hm : mg "is_pair" = some (.ref f)) (T : Txt K mg) : DefIs P w K mg base 1 "is_pair" ["thing"] F_is_pair :=
  def_mk (m := m_is_pair) F hm (F.binds fun _ _ _ _ _ _ us hl => match us, hl with | [_], _ => rfl) sc_is_pair rfl fun cdv A outer s H E hr =>
    ss_one (ss_ret (se_and (se_isi (Ts := "tuple") T.b_isinstance T.b_tuple (se_var 0)) (se_one (se_eq (hu64 hr) (se_len T.b_len (se_var 0)) (se_int)))))
end
end W
end
section
set_option maxRecDepth 100000
set_option maxHeartbeats 8000000
namespace W
open PySem PySem.Spec PyProof.Rows L2 S3 S4
section
variable {P : Program} {w : World} {K : PySem.W.Frag} {mg : Str → Option Value} {base : Heap}
theorem ok_is_rising {f : Addr} {fd : FuncData} (F : Fun K "is_rising" "is_rising" (top 6) f fd) (hm : mg "is_rising" = some (.ref f)) (T : Txt K mg) : DefIs P w K mg base 1 "is_rising" ["things"] F_is_rising :=
  def_mk (m := m_is_rising) F hm (F.binds fun _ _ _ _ _ _ us hl => match us, hl with | [_], _ => rfl) sc_is_rising rfl fun cdv A outer s H E hr =>
    ss_one (ss_ret (se_all rfl T.b_all (se_comp (t := m_is_rising_t1) (m := m_is_rising_e2) (mkCS (Nc := ["ahead", "behind"]) (js := [none, none]) (defScope (top 6)) ["things"] (fun _ => rfl) rfl (by decide +kernel)) rfl (si_zipT T.b_zip (se_var 0) (se_slice (se_var 0) (so_some (se_int)) (so_none))) (fun C ex s2 H2 => ⟨sg_tup rfl (sgs_cons (sg_name 0 (show (["ahead", "behind"] : List Str).Nodup by decide +kernel)) (sgs_cons (sg_name 1 (show (["ahead", "behind"] : List Str).Nodup by decide +kernel)) (sgs_nil))), sts_nil, se_lt (hu0 hr) (se_var 0) (se_var 1)⟩))))
end
end W
end
section
set_option maxRecDepth 100000
set_option maxHeartbeats 8000000
namespace W
open PySem PySem.Spec PyProof.Rows L2 S3 S4
section
variable {P : Program} {w : World} {K : PySem.W.Frag} {mg : Str → Option Value} {base : Heap}
theorem ok__law_cell_at {f : Addr} {fd : FuncData} (F : Fun K "_law_cell_at" "_law_cell_at" (top 9) f fd) (hm : mg "_law_cell_at" = some (.ref f)) (T : Txt K mg) : DefIs P w K mg base 1 "_law_cell_at" ["_law_script", "_law_k"] F__law_cell_at :=
  def_mk (m := m__law_cell_at) F hm (F.binds fun _ _ _ _ _ _ us hl => match us, hl with | [_, _], _ => rfl) sc__law_cell_at rfl fun cdv A outer s H E hr =>
    ss_cons (ss_if (sb_lt (hu0 hr) (se_var 1) (se_len T.b_len (se_var 0))) (ss_one (ss_ret (se_item (se_var 0) (se_var 1)))) (ss_nil)) (ss_one (ss_ret (se_int)))
end
end W
end
section
set_option maxRecDepth 100000
set_option maxHeartbeats 8000000
namespace W
open PySem PySem.Spec PyProof.Rows L2 S3 S4
section
variable {P : Program} {w : World} {K : PySem.W.Frag} {mg : Str → Option Value} {base : Heap}
theorem ok__law_take {f : Addr} {fd : FuncData} (F : Fun K "_law_take" "_law_take" (top 11) f fd) (hm : mg "_law_take" = some (.ref f)) (T : Txt K mg) : DefIs P w K mg base 1 "_law_take" ["_law_state_here", "_law_many"] F__law_take :=
  def_mk (m := m__law_take) F hm (F.binds fun _ _ _ _ _ _ us hl => match us, hl with | [_, _], _ => rfl) sc__law_take rfl fun cdv A outer s H E hr =>
    ss_cons (ss_if (sb_val (se_item (se_var 0) (se_int))) (ss_cons (ss_set 2 sc__law_take.nd (se_mod (se_item (se_var 0) (se_int)) (se_var 1))) (ss_cons (ss_asg (se_fdiv (se_item (se_var 0) (se_int)) (se_var 1)) (sg_item (se_var 0) (se_int))) (ss_one (ss_ret (se_var 2))))) (ss_nil)) (ss_cons (ss_asg (se_mod (se_add (se_mul (se_item (se_var 0) (se_int)) (se_int)) (se_int)) (se_int)) (sg_item (se_var 0) (se_int))) (ss_cons (ss_set 3 sc__law_take.nd (se_mod (se_add (se_add (se_mul (se_item (se_var 0) (se_int)) (se_item (se_var 0) (se_int))) (se_mul (se_int) (se_item (se_var 0) (se_int)))) (se_int)) (se_int))) (ss_cons (ss_set 3 sc__law_take.nd (se_mod (se_add (se_mul (se_var 3) (se_var 3)) (se_mul (se_int) (se_var 3))) (se_int))) (ss_one (ss_ret (se_mod (se_fdiv (se_var 3) (se_int)) (se_var 1)))))))
end
end W
end
section
set_option maxRecDepth 100000
set_option maxHeartbeats 8000000
namespace W
open PySem PySem.Spec PyProof.Rows L2 S3 S4
section
variable {P : Program} {w : World} {K : PySem.W.Frag} {mg : Str → Option Value} {base : Heap}
theorem ok__law_pairs {f : Addr} {fd : FuncData} (F : Fun K "_law_pairs" "_law_pairs" (top 12) f fd) (hm : mg "_law_pairs" = some (.ref f)) (T : Txt K mg) : DefIs P w K mg base 1 "_law_pairs" ["_law_many"] F__law_pairs :=
  def_mk (m := m__law_pairs) F hm (F.binds fun _ _ _ _ _ _ us hl => match us, hl with | [_], _ => rfl) sc__law_pairs rfl fun cdv A outer s H E hr =>
    ss_cons (ss_set 1 sc__law_pairs.nd (se_lst (sa_nil))) (ss_cons (ss_for (b := m__law_pairs_b3) PassesOwn.never rfl (si_range1 T.b_range (se_var 0)) (sg_name 2 sc__law_pairs.nd) (ss_one (ss_expr (se_extend (se_var 1) (se_comp (t := m__law_pairs_t1) (m := m__law_pairs_e2) (mkCS (Nc := ["_law_b", "_law_a"]) (js := [none, some 2]) (defScope (top 12)) ["_law_many", "_law_found", "_law_a"] (fun _ => rfl) rfl (by decide +kernel)) rfl (si_range2 T.b_range (se_add (se_var 2) (se_int)) (se_var 0)) (fun C ex s2 H2 => ⟨sg_name 0 (show (["_law_b", "_law_a"] : List Str).Nodup by decide +kernel), sts_nil, se_tup (sa_cons (se_var 1) (sa_cons (se_var 0) (sa_nil) st_Name) st_Name)⟩)))))) (ss_one (ss_ret (se_var 1))))
end
end W
end
section
set_option maxRecDepth 100000
set_option maxHeartbeats 8000000
namespace W
open PySem PySem.Spec PyProof.Rows L2 S3 S4
section
variable {P : Program} {w : World} {K : PySem.W.Frag} {mg : Str → Option Value} {base : Heap}
theorem ok__law_whole {f : Addr} {fd : FuncData} (F : Fun K "_law_whole" "_law_whole" (top 16) f fd) (hm : mg "_law_whole" = some (.ref f)) (T : Txt K mg) : DefIs P w K mg base 1 "_law_whole" ["_law_thing"] F__law_whole :=
  def_mk (m := m__law_whole) F hm (F.binds fun _ _ _ _ _ _ us hl => match us, hl with | [_], _ => rfl) sc__law_whole rfl fun cdv A outer s H E hr =>
    ss_one (ss_ret (se_and (se_isi (Ts := "int") T.b_isinstance T.b_int (se_var 0)) (se_one (se_not (se_isi (Ts := "bool") T.b_isinstance T.b_bool (se_var 0))))))
end
end W
end
section
set_option maxRecDepth 100000
set_option maxHeartbeats 8000000
namespace W
open PySem PySem.Spec PyProof.Rows L2 S3 S4
section
variable {P : Program} {w : World} {K : PySem.W.Frag} {mg : Str → Option Value} {base : Heap}
theorem ok__law_same {f : Addr} {fd : FuncData} (F : Fun K "_law_same" "_law_same" (top 19) f fd) (hm : mg "_law_same" = some (.ref f)) (T : Txt K mg) : DefIs P w K mg base 1 "_law_same" ["_law_found", "_law_due"] F__law_same :=
  def_mk (m := m__law_same) F hm (F.binds fun _ _ _ _ _ _ us hl => match us, hl with | [_, _], _ => rfl) sc__law_same rfl fun cdv A outer s H E hr =>
    ss_cons (ss_if (sb_val (se_isi2 (Ts := "tuple") (Us := "list") T.b_isinstance T.b_tuple T.b_list (se_var 1))) (ss_cons (ss_if (sb_w (sw_or (sb_ne (hu64 hr) (se_isi (Ts := "tuple") T.b_isinstance T.b_tuple (se_var 0)) (se_isi (Ts := "tuple") T.b_isinstance T.b_tuple (se_var 1))) (sw_or1 (sb_ne (hu64 hr) (se_isi (Ts := "list") T.b_isinstance T.b_list (se_var 0)) (se_isi (Ts := "list") T.b_isinstance T.b_list (se_var 1)))))) (ss_one (ss_ret (se_bl))) (ss_nil)) (ss_cons (ss_if (sb_ne (hu64 hr) (se_len T.b_len (se_var 0)) (se_len T.b_len (se_var 1))) (ss_one (ss_ret (se_bl))) (ss_nil)) (ss_one (ss_any)))) (ss_nil)) (ss_one (ss_ret (se_and (se_eq (hu64 hr) (se_var 0) (se_var 1)) (se_one (se_eq (hu64 hr) (se_isi (Ts := "bool") T.b_isinstance T.b_bool (se_var 0)) (se_isi (Ts := "bool") T.b_isinstance T.b_bool (se_var 1)))))))
end
end W
end
section
set_option maxRecDepth 100000
set_option maxHeartbeats 8000000
namespace W
open PySem PySem.Spec PyProof.Rows L2 S3 S4
section
variable {P : Program} {w : World} {K : PySem.W.Frag} {mg : Str → Option Value} {base : Heap}
theorem ok_is_place {f : Addr} {fd : FuncData} (F : Fun K "is_place" "is_place" (top 4) f fd) (hm : mg "is_place" = some (.ref f)) (T : Txt K mg) (D_is_whole : DefIs P w K mg base 1 "is_whole" ["thing"] F_is_whole) : DefIs P w K mg base 2 "is_place" ["many", "thing"] F_is_place :=
  def_mk (m := m_is_place) F hm (F.binds fun _ _ _ _ _ _ us hl => match us, hl with | [_, _], _ => rfl) sc_is_place rfl fun cdv A outer s H E hr =>
    ss_one (ss_ret (se_and (se_callD D_is_whole (hr.mono (by decide)) (sa_cons (se_var 1) (sa_nil) st_Name)) (se_one (se_chain op_le (op_lt.or (op_ltT (hu0 hr))) (opd_int fun _ _ _ _ => .bl _) opd_lt (se_int) (se_var 1) (se_var 0)))))
end
end W
end
section
set_option maxRecDepth 100000
set_option maxHeartbeats 8000000
namespace W
open PySem PySem.Spec PyProof.Rows L2 S3 S4
section
variable {P : Program} {w : World} {K : PySem.W.Frag} {mg : Str → Option Value} {base : Heap}
theorem ok__law_state {f : Addr} {fd : FuncData} (F : Fun K "_law_state" "_law_state" (top 10) f fd) (hm : mg "_law_state" = some (.ref f)) (T : Txt K mg) (D__law_cell_at : DefIs P w K mg base 1 "_law_cell_at" ["_law_script", "_law_k"] F__law_cell_at) : DefIs P w K mg base 2 "_law_state" ["_law_script", "_law_k"] F__law_state :=
  def_mk (m := m__law_state) F hm (F.binds fun _ _ _ _ _ _ us hl => match us, hl with | [_, _], _ => rfl) sc__law_state rfl fun cdv A outer s H E hr =>
    ss_cons (ss_set 2 sc__law_state.nd (se_callD D__law_cell_at (hr.mono (by decide)) (sa_cons (se_var 0) (sa_cons (se_var 1) (sa_nil) st_Name) st_Name))) (ss_cons (ss_if (sb_ge (se_var 2) (se_pow (se_int) (se_int))) (ss_one (ss_ret (se_lst (sa_cons (se_sub (se_var 2) (se_pow (se_int) (se_int))) (sa_cons (se_bl) (sa_nil) st_Constant) st_BinOp)))) (ss_nil)) (ss_one (ss_ret (se_lst (sa_cons (se_mod (se_var 2) (se_int)) (sa_cons (se_bl) (sa_nil) st_Constant) st_BinOp)))))
end
end W
end
section
set_option maxRecDepth 100000
set_option maxHeartbeats 8000000
namespace W
open PySem PySem.Spec PyProof.Rows L2 S3 S4
section
variable {P : Program} {w : World} {K : PySem.W.Frag} {mg : Str → Option Value} {base : Heap}
theorem ok__law_mixed_row {f : Addr} {fd : FuncData} (F : Fun K "_law_mixed_row" "_law_mixed_row" (top 13) f fd) (hm : mg "_law_mixed_row" = some (.ref f)) (T : Txt K mg) (D__law_take : DefIs P w K mg base 1 "_law_take" ["_law_state_here", "_law_many"] F__law_take) : DefIs P w K mg base 2 "_law_mixed_row" ["_law_state_here", "_law_things"] F__law_mixed_row :=
  def_mk (m := m__law_mixed_row) F hm (F.binds fun _ _ _ _ _ _ us hl => match us, hl with | [_, _], _ => rfl) sc__law_mixed_row rfl fun cdv A outer s H E hr =>
    ss_cons (ss_set 2 sc__law_mixed_row.nd (se_list T.b_list (se_var 1))) (ss_cons (ss_set 3 sc__law_mixed_row.nd (se_lst (sa_nil))) (ss_cons (ss_while (b := m__law_mixed_row_b1) 64 PassesOwn.never (sb_ne (hu64 hr) (se_var 2) (se_lst (sa_nil))) (ss_one (ss_expr (se_append (se_var 3) (se_popAt (se_var 2) (se_callD D__law_take (hr.mono (by decide)) (sa_cons (se_var 0) (sa_cons (se_len T.b_len (se_var 2)) (sa_nil) st_Call) st_Name))))))) (ss_one (ss_ret (se_var 3)))))
end
end W
end
section
set_option maxRecDepth 100000
set_option maxHeartbeats 8000000
namespace W
open PySem PySem.Spec PyProof.Rows L2 S3 S4
section
variable {P : Program} {w : World} {K : PySem.W.Frag} {mg : Str → Option Value} {base : Heap}
theorem ok__law_great_web {f : Addr} {fd : FuncData} (F : Fun K "_law_great_web" "_law_great_web" (top 15) f fd) (hm : mg "_law_great_web" = some (.ref f)) (T : Txt K mg) (D__law_take : DefIs P w K mg base 1 "_law_take" ["_law_state_here", "_law_many"] F__law_take) : DefIs P w K mg base 2 "_law_great_web" ["_law_state_here"] F__law_great_web :=
  def_mk (m := m__law_great_web) F hm (F.binds fun _ _ _ _ _ _ us hl => match us, hl with | [_], _ => rfl) sc__law_great_web rfl fun cdv A outer s H E hr =>
    ss_cons (ss_set 1 sc__law_great_web.nd (se_add (se_int) (se_callD D__law_take (hr.mono (by decide)) (sa_cons (se_var 0) (sa_cons (se_int) (sa_nil) st_Constant) st_Name)))) (ss_cons (ss_set 2 sc__law_great_web.nd (se_lst (sa_nil))) (ss_cons (ss_for (b := m__law_great_web_b1) PassesOwn.never rfl (si_range1 T.b_range (se_callD D__law_take (hr.mono (by decide)) (sa_cons (se_var 0) (sa_cons (se_int) (sa_nil) st_Constant) st_Name))) (sg_name 3 sc__law_great_web.nd) (ss_cons (ss_set 4 sc__law_great_web.nd (se_callD D__law_take (hr.mono (by decide)) (sa_cons (se_var 0) (sa_cons (se_var 1) (sa_nil) st_Name) st_Name))) (ss_cons (ss_set 5 sc__law_great_web.nd (se_mod (se_add (se_add (se_var 4) (se_int)) (se_callD D__law_take (hr.mono (by decide)) (sa_cons (se_var 0) (sa_cons (se_sub (se_var 1) (se_int)) (sa_nil) st_BinOp) st_Name))) (se_var 1))) (ss_one (ss_expr (se_append (se_var 2) (se_tup (sa_cons (se_min rfl T.b_min (sa_cons (se_var 4) (sa_cons (se_var 5) (sa_nil) st_Name) st_Name)) (sa_cons (se_max rfl T.b_max (sa_cons (se_var 4) (sa_cons (se_var 5) (sa_nil) st_Name) st_Name)) (sa_nil) st_Call) st_Call)))))))) (ss_one (ss_ret (se_tup (sa_cons (se_var 1) (sa_cons (se_tuple T.b_tuple (se_sortedSet rfl (hu8 hr) T.b_sorted T.b_set (se_var 2))) (sa_nil) st_Call) st_Name))))))
end
end W
end
section
set_option maxRecDepth 100000
set_option maxHeartbeats 8000000
namespace W
open PySem PySem.Spec PyProof.Rows L2 S3 S4
section
variable {P : Program} {w : World} {K : PySem.W.Frag} {mg : Str → Option Value} {base : Heap}
theorem ok__law_is_web {f : Addr} {fd : FuncData} (F : Fun K "_law_is_web" "_law_is_web" (top 17) f fd) (hm : mg "_law_is_web" = some (.ref f)) (T : Txt K mg) (D__law_whole : DefIs P w K mg base 1 "_law_whole" ["_law_thing"] F__law_whole) : DefIs P w K mg base 2 "_law_is_web" ["_law_thing"] F__law_is_web :=
  def_mk (m := m__law_is_web) F hm (F.binds fun _ _ _ _ _ _ us hl => match us, hl with | [_], _ => rfl) sc__law_is_web rfl fun cdv A outer s H E hr =>
    ss_cons (ss_if (sb_w (sw_or (sb_not (sb_val (se_isi (Ts := "tuple") T.b_isinstance T.b_tuple (se_var 0)))) (sw_or (sb_ne (hu64 hr) (se_len T.b_len (se_var 0)) (se_int)) (sw_or (sb_not (sb_val (se_callD D__law_whole (hr.mono (by decide)) (sa_cons (se_item (se_var 0) (se_int)) (sa_nil) st_Subscript)))) (sw_or1 (sb_not (sb_chain op_le op_le (opd_int fun _ _ _ _ => .bl _) (opd_int fun _ _ _ _ => .bl _) (se_int) (se_item (se_var 0) (se_int)) (se_int)))))))) (ss_one (ss_ret (se_bl))) (ss_nil)) (ss_cons (ss_if (sb_not (sb_val (se_isi (Ts := "tuple") T.b_isinstance T.b_tuple (se_item (se_var 0) (se_int))))) (ss_one (ss_ret (se_bl))) (ss_nil)) (ss_cons (ss_for (b := m__law_is_web_b1) PassesOwn.never rfl (si_seq (se_item (se_var 0) (se_int))) (sg_name 1 sc__law_is_web.nd) (ss_cons (ss_if (sb_w (sw_or (sb_not (sb_val (se_isi (Ts := "tuple") T.b_isinstance T.b_tuple (se_var 1)))) (sw_or (sb_ne (hu64 hr) (se_len T.b_len (se_var 1)) (se_int)) (sw_or (sb_not (sb_val (se_callD D__law_whole (hr.mono (by decide)) (sa_cons (se_item (se_var 1) (se_int)) (sa_nil) st_Subscript)))) (sw_or1 (sb_not (sb_val (se_callD D__law_whole (hr.mono (by decide)) (sa_cons (se_item (se_var 1) (se_int)) (sa_nil) st_Subscript))))))))) (ss_one (ss_ret (se_bl))) (ss_nil)) (ss_one (ss_if (sb_not (sb_chain3 op_le (op_lt.or (op_ltT (hu0 hr))) (op_lt.or (op_ltT (hu0 hr))) (opd_int fun _ _ _ _ => .bl _) opd_lt opd_lt (se_int) (se_item (se_var 1) (se_int)) (se_item (se_var 1) (se_int)) (se_item (se_var 0) (se_int)))) (ss_one (ss_ret (se_bl))) (ss_nil))))) (ss_one (ss_ret (se_eq (hu64 hr) (se_list T.b_list (se_item (se_var 0) (se_int))) (se_sortedSet rfl (hu8 hr) T.b_sorted T.b_set (se_item (se_var 0) (se_int))))))))
end
end W
end
section
set_option maxRecDepth 100000
set_option maxHeartbeats 0
namespace W
open PySem PySem.Spec PyProof.Rows L2 S3 S4
section
variable {P : Program} {w : World} {K : PySem.W.Frag} {mg : Str → Option Value} {base : Heap}
theorem ok__law_bad_web {f : Addr} {fd : FuncData} (F : Fun K "_law_bad_web" "_law_bad_web" (top 18) f fd) (hm : mg "_law_bad_web" = some (.ref f)) (T : Txt K mg) (D__law_take : DefIs P w K mg base 1 "_law_take" ["_law_state_here", "_law_many"] F__law_take) : DefIs P w K mg base 2 "_law_bad_web" ["_law_state_here"] F__law_bad_web := by
  refine def_mk (m := m__law_bad_web) F hm (F.binds fun _ _ _ _ _ _ us hl => match us, hl with | [_], _ => rfl) sc__law_bad_web rfl fun cdv A outer s H E hr => ?_
  have key : ∀ e pos pos' me, SE (cxOf CX0 P w K mg base ["_law_state_here", "_law_some"] "_law_bad_web" (defScope (top 18)) f cdv A outer s H E).nox noX e me → swapsWith e (some (.Name "_law_some" pos')) pos.line (cxOf CX0 P w K mg base ["_law_state_here", "_law_some"] "_law_bad_web" (defScope (top 18)) f cdv A outer s H E).nox.env = pure false → SS (cxOf CX0 P w K mg base ["_law_state_here", "_law_some"] "_law_bad_web" (defScope (top 18)) f cdv A outer s H E).nox noX (.Assign [.Name "_law_some" pos'] e pos) (sSet 1 me) := fun e pos pos' me h hs => ss_set 1 sc__law_bad_web.nd h (hs := hs)
  have kv : ∀ pos, SE (cxOf CX0 P w K mg base ["_law_state_here", "_law_some"] "_law_bad_web" (defScope (top 18)) f cdv A outer s H E).nox noX (.Name "_law_some" pos) (mV 1) := fun pos => se_var 1
  refine ss_cons ?_ ?_
  · with_reducible refine key _ _ _ _ ?_ sw_List
    with_reducible refine se_lst ?_
    with_reducible refine sa_consD (se_non) ?_ st_Constant
    with_reducible refine sa_consD (se_int) ?_ st_Constant
    with_reducible refine sa_consD (se_lit 6 ?_) ?_ st_Tuple
    case refine_1 => rfl
    with_reducible refine sa_consD (se_lit 6 ?_) ?_ st_Tuple
    case refine_1 => rfl
    with_reducible refine sa_consD (se_lit 6 ?_) ?_ st_Tuple
    case refine_1 => rfl
    with_reducible refine sa_consD (se_lit 6 ?_) ?_ st_Tuple
    case refine_1 => rfl
    with_reducible refine sa_consD ?_ ?_ st_Tuple
    case refine_1 => exact (se_tup (sa_cons (se_int) (sa_cons (se_lst (sa_nil)) (sa_nil) st_List) st_Constant))
    with_reducible refine sa_consD ?_ ?_ st_List
    case refine_1 => exact (se_lst (sa_cons (se_int) (sa_cons (se_lit 6 rfl) (sa_nil) st_Tuple) st_Constant))
    with_reducible refine sa_consD (se_lit 6 ?_) ?_ st_Tuple
    case refine_1 => rfl
    with_reducible refine sa_consD (se_lit 6 ?_) ?_ st_Tuple
    case refine_1 => rfl
    with_reducible refine sa_consD (se_emp) ?_ st_Dict
    with_reducible refine sa_consD (se_str) ?_ st_Constant
    exact sa_nil
  refine ss_cons ?_ ?_
  · with_reducible refine key _ _ _ _ ?_ sw_BinOp
    with_reducible refine se_add (kv _) ?_
    with_reducible refine se_lst ?_
    with_reducible refine sa_consD (se_lit 6 ?_) ?_ st_Tuple
    case refine_1 => rfl
    with_reducible refine sa_consD (se_lit 6 ?_) ?_ st_Tuple
    case refine_1 => rfl
    with_reducible refine sa_consD (se_lit 6 ?_) ?_ st_Tuple
    case refine_1 => rfl
    with_reducible refine sa_consD (se_lit 6 ?_) ?_ st_Tuple
    case refine_1 => rfl
    with_reducible refine sa_consD (se_lit 6 ?_) ?_ st_Tuple
    case refine_1 => rfl
    exact sa_nil
  refine ss_cons ?_ ?_
  · with_reducible refine key _ _ _ _ ?_ sw_BinOp
    with_reducible refine se_add (kv _) ?_
    with_reducible refine se_lst ?_
    with_reducible refine sa_consD (se_lit 6 ?_) ?_ st_Tuple
    case refine_1 => rfl
    with_reducible refine sa_consD (se_lit 6 ?_) ?_ st_Tuple
    case refine_1 => rfl
    with_reducible refine sa_consD (se_lit 6 ?_) ?_ st_Tuple
    case refine_1 => rfl
    with_reducible refine sa_consD (se_lit 6 ?_) ?_ st_Tuple
    case refine_1 => rfl
    with_reducible refine sa_consD ?_ ?_ st_Tuple
    case refine_1 => exact (se_tup (sa_cons (se_int) (sa_cons (se_tup (sa_cons (se_lst (sa_cons (se_int) (sa_cons (se_int) (sa_nil) st_Constant) st_Constant)) (sa_nil) st_List)) (sa_nil) st_Tuple) st_Constant))
    with_reducible refine sa_consD (se_lit 6 ?_) ?_ st_Tuple
    case refine_1 => rfl
    with_reducible refine sa_consD (se_lit 6 ?_) ?_ st_Tuple
    case refine_1 => rfl
    with_reducible refine sa_consD (se_lit 6 ?_) ?_ st_Tuple
    case refine_1 => rfl
    exact sa_nil
  exact (ss_one (ss_ret (se_item (se_var 1) (se_callD D__law_take (hr.mono (by decide)) (sa_cons (se_var 0) (sa_cons (se_int) (sa_nil) st_Constant) st_Name)))))
end
end W
end
section
set_option maxRecDepth 100000
set_option maxHeartbeats 8000000
namespace W
open PySem PySem.Spec PyProof.Rows L2 S3 S4
section
variable {P : Program} {w : World} {K : PySem.W.Frag} {mg : Str → Option Value} {base : Heap}
theorem ok__law_bent {f : Addr} {fd : FuncData} (F : Fun K "_law_bent" "_law_bent" (top 20) f fd) (hm : mg "_law_bent" = some (.ref f)) (T : Txt K mg) (D__law_take : DefIs P w K mg base 1 "_law_take" ["_law_state_here", "_law_many"] F__law_take) : DefIs P w K mg base 2 "_law_bent" ["_law_state_here", "_law_web_here"] F__law_bent :=
  def_mk (m := m__law_bent) F hm (F.binds fun _ _ _ _ _ _ us hl => match us, hl with | [_, _], _ => rfl) sc__law_bent rfl fun cdv A outer s H E hr =>
    ss_cons (ss_asg (se_var 1) (sg_tup rfl (sgs_cons (sg_name 2 sc__law_bent.nd) (sgs_cons (sg_name 3 sc__law_bent.nd) (sgs_nil))))) (ss_cons (ss_set 4 sc__law_bent.nd (se_callD D__law_take (hr.mono (by decide)) (sa_cons (se_var 0) (sa_cons (se_add (se_len T.b_len (se_var 3)) (se_int)) (sa_nil) st_BinOp) st_Name))) (ss_cons (ss_par 5 6 rfl sc__law_bent.nd (sa_cons (se_callD D__law_take (hr.mono (by decide)) (sa_cons (se_var 0) (sa_cons (se_add (se_var 2) (se_int)) (sa_nil) st_BinOp) st_Name)) (sa_cons (se_callD D__law_take (hr.mono (by decide)) (sa_cons (se_var 0) (sa_cons (se_add (se_var 2) (se_int)) (sa_nil) st_BinOp) st_Name)) (sa_nil) st_Call) st_Call)) (ss_cons (ss_set 7 sc__law_bent.nd (se_lst (by (refine sa_consD (se_tup (sa_cons (se_var 5) (sa_cons (se_var 6) (sa_nil) st_Name) st_Name)) ?_ st_Tuple; refine sa_consD (se_tup (sa_cons (se_var 6) (sa_cons (se_var 5) (sa_nil) st_Name) st_Name)) ?_ st_Tuple; refine sa_consD (se_tup (sa_cons (se_var 5) (sa_cons (se_var 5) (sa_nil) st_Name) st_Name)) ?_ st_Tuple; refine sa_consD (se_tup (sa_cons (se_neg) (sa_cons (se_var 5) (sa_nil) st_Name) st_UnaryOp)) ?_ st_Tuple; refine sa_consD (se_tup (sa_cons (se_var 5) (sa_cons (se_bl) (sa_nil) st_Constant) st_Name)) ?_ st_Tuple; refine sa_consD (se_tup (sa_cons (se_var 5) (sa_nil) st_Name)) ?_ st_Tuple; refine sa_consD (se_tup (sa_cons (se_var 5) (sa_cons (se_var 6) (sa_cons (se_var 6) (sa_nil) st_Name) st_Name) st_Name)) ?_ st_Tuple; refine sa_consD (se_lst (sa_cons (se_var 5) (sa_cons (se_var 6) (sa_nil) st_Name) st_Name)) ?_ st_List; refine sa_consD (se_non) ?_ st_Constant; refine sa_consD (se_str) ?_ st_Constant; refine sa_consD (se_var 5) ?_ st_Name; refine sa_consD (se_tup (sa_cons (se_var 5) (sa_cons (se_non) (sa_nil) st_Constant) st_Name)) ?_ st_Tuple; refine sa_consD (se_tup (sa_cons (se_tup (sa_cons (se_var 5) (sa_cons (se_var 6) (sa_nil) st_Name) st_Name)) (sa_nil) st_Tuple)) ?_ st_Tuple; exact sa_nil)))) (ss_cons (ss_set 7 sc__law_bent.nd (se_item (se_var 7) (se_callD D__law_take (hr.mono (by decide)) (sa_cons (se_var 0) (sa_cons (se_int) (sa_nil) st_Constant) st_Name)))) (ss_cons (ss_set 8 sc__law_bent.nd (se_lst (sa_cons (se_tup (sa_cons (se_var 2) (sa_cons (se_add (se_slice (se_var 3) (so_none) (so_some (se_var 4))) (se_slice (se_var 3) (so_some (se_add (se_var 4) (se_int))) (so_none))) (sa_nil) st_BinOp) st_Name)) (sa_cons (se_tup (sa_cons (se_var 2) (sa_cons (se_add (se_add (se_slice (se_var 3) (so_none) (so_some (se_var 4))) (se_tup (sa_cons (se_var 7) (sa_nil) st_Name))) (se_slice (se_var 3) (so_some (se_var 4)) (so_none))) (sa_nil) st_BinOp) st_Name)) (sa_cons (se_tup (sa_cons (se_sub (se_var 2) (se_int)) (sa_cons (se_var 3) (sa_nil) st_Name) st_BinOp)) (sa_nil) st_Tuple) st_Tuple) st_Tuple))) (ss_cons (ss_set 8 sc__law_bent.nd (se_add (se_var 8) (se_lst (sa_cons (se_tup (sa_cons (se_var 2) (sa_cons (se_add (se_add (se_slice (se_var 3) (so_none) (so_some (se_var 4))) (se_tup (sa_cons (se_var 7) (sa_nil) st_Name))) (se_slice (se_var 3) (so_some (se_add (se_var 4) (se_int))) (so_none))) (sa_nil) st_BinOp) st_Name)) (sa_cons (se_tup (sa_cons (se_var 2) (sa_cons (se_add (se_add (se_slice (se_var 3) (so_none) (so_some (se_var 4))) (se_slice (se_var 3) (so_some (se_var 4)) (so_some (se_add (se_var 4) (se_int))))) (se_slice (se_var 3) (so_some (se_var 4)) (so_none))) (sa_nil) st_BinOp) st_Name)) (sa_nil) st_Tuple) st_Tuple)))) (ss_cons (ss_set 8 sc__law_bent.nd (se_add (se_var 8) (se_lst (by (refine sa_consD (se_tup (sa_cons (se_var 2) (sa_cons (se_rev (se_var 3)) (sa_nil) st_Subscript) st_Name)) ?_ st_Tuple; refine sa_consD (se_tup (sa_cons (se_var 2) (sa_cons (se_list T.b_list (se_var 3)) (sa_nil) st_Call) st_Name)) ?_ st_Tuple; refine sa_consD (se_lst (sa_cons (se_var 2) (sa_cons (se_var 3) (sa_nil) st_Name) st_Name)) ?_ st_List; refine sa_consD (se_tup (sa_cons (se_add (se_var 2) (se_int)) (sa_cons (se_var 3) (sa_nil) st_Name) st_BinOp)) ?_ st_Tuple; refine sa_consD (se_tup (sa_cons (se_var 2) (sa_nil) st_Name)) ?_ st_Tuple; refine sa_consD (se_tup (sa_cons (se_var 3) (sa_cons (se_var 2) (sa_nil) st_Name) st_Name)) ?_ st_Tuple; exact sa_nil))))) (ss_cons (ss_set 8 sc__law_bent.nd (se_add (se_var 8) (se_lst (by (refine sa_consD (se_tup (sa_cons (se_var 2) (sa_cons (se_var 3) (sa_cons (se_lit 6 rfl) (sa_nil) st_Tuple) st_Name) st_Name)) ?_ st_Tuple; refine sa_consD (se_tup (sa_cons (se_bl) (sa_cons (se_var 3) (sa_nil) st_Name) st_Constant)) ?_ st_Tuple; refine sa_consD (se_tup (sa_cons (se_strI T.b_str (se_var 2)) (sa_cons (se_var 3) (sa_nil) st_Name) st_Call)) ?_ st_Tuple; refine sa_consD (se_tup (sa_cons (se_int) (sa_cons (se_var 3) (sa_nil) st_Name) st_Constant)) ?_ st_Tuple; exact sa_nil))))) (ss_one (ss_ret (se_item (se_var 8) (se_callD D__law_take (hr.mono (by decide)) (sa_cons (se_var 0) (sa_cons (se_int) (sa_nil) st_Constant) st_Name)))))))))))))
end
end W
end
section
set_option maxRecDepth 100000
set_option maxHeartbeats 8000000
namespace W
open PySem PySem.Spec PyProof.Rows L2 S3 S4
section
variable {P : Program} {w : World} {K : PySem.W.Frag} {mg : Str → Option Value} {base : Heap}
theorem ok_is_tie {f : Addr} {fd : FuncData} (F : Fun K "is_tie" "is_tie" (top 5) f fd) (hm : mg "is_tie" = some (.ref f)) (T : Txt K mg) (D_is_pair : DefIs P w K mg base 1 "is_pair" ["thing"] F_is_pair) (D_is_place : DefIs P w K mg base 2 "is_place" ["many", "thing"] F_is_place) : DefIs P w K mg base 3 "is_tie" ["many", "thing"] F_is_tie :=
  def_mk (m := m_is_tie) F hm (F.binds fun _ _ _ _ _ _ us hl => match us, hl with | [_, _], _ => rfl) sc_is_tie rfl fun cdv A outer s H E hr =>
    ss_cons (ss_if (sb_not (sb_val (se_callD D_is_pair (hr.mono (by decide)) (sa_cons (se_var 1) (sa_nil) st_Name)))) (ss_one (ss_ret (se_bl))) (ss_nil)) (ss_cons (ss_asg (se_var 1) (sg_tup rfl (sgs_cons (sg_name 2 sc_is_tie.nd) (sgs_cons (sg_name 3 sc_is_tie.nd) (sgs_nil))))) (ss_one (ss_ret (se_and (se_callD D_is_place (hr.mono (by decide)) (sa_cons (se_var 0) (sa_cons (se_var 2) (sa_nil) st_Name) st_Name)) (se_and (se_callD D_is_place (hr.mono (by decide)) (sa_cons (se_var 0) (sa_cons (se_var 3) (sa_nil) st_Name) st_Name)) (se_one (se_lt (hu0 hr) (se_var 2) (se_var 3))))))))
end
end W
end
section
set_option maxRecDepth 100000
set_option maxHeartbeats 8000000
namespace W
open PySem PySem.Spec PyProof.Rows L2 S3 S4
section
variable {P : Program} {w : World} {K : PySem.W.Frag} {mg : Str → Option Value} {base : Heap}
theorem ok__law_web {f : Addr} {fd : FuncData} (F : Fun K "_law_web" "_law_web" (top 14) f fd) (hm : mg "_law_web" = some (.ref f)) (T : Txt K mg) (D__law_take : DefIs P w K mg base 1 "_law_take" ["_law_state_here", "_law_many"] F__law_take) (D__law_pairs : DefIs P w K mg base 1 "_law_pairs" ["_law_many"] F__law_pairs) (D__law_mixed_row : DefIs P w K mg base 2 "_law_mixed_row" ["_law_state_here", "_law_things"] F__law_mixed_row) : DefIs P w K mg base 3 "_law_web" ["_law_state_here", "_law_most"] F__law_web :=
  def_mk (m := m__law_web) F hm (F.binds fun _ _ _ _ _ _ us hl => match us, hl with | [_, _], _ => rfl) sc__law_web rfl fun cdv A outer s H E hr =>
    ss_cons (ss_set 2 sc__law_web.nd (se_max rfl T.b_max (sa_cons (se_int) (sa_cons (se_sub (se_var 1) (se_item (se_lst (by (refine sa_consD (se_int) ?_ st_Constant; refine sa_consD (se_int) ?_ st_Constant; refine sa_consD (se_int) ?_ st_Constant; refine sa_consD (se_int) ?_ st_Constant; refine sa_consD (se_int) ?_ st_Constant; refine sa_consD (se_int) ?_ st_Constant; refine sa_consD (se_int) ?_ st_Constant; refine sa_consD (se_var 1) ?_ st_Name; exact sa_nil))) (se_callD D__law_take (hr.mono (by decide)) (sa_cons (se_var 0) (sa_cons (se_int) (sa_nil) st_Constant) st_Name)))) (sa_nil) st_BinOp) st_Constant))) (ss_cons (ss_set 3 sc__law_web.nd (se_callD D__law_take (hr.mono (by decide)) (sa_cons (se_var 0) (sa_cons (se_int) (sa_nil) st_Constant) st_Name))) (ss_cons (ss_set 4 sc__law_web.nd (se_comp (t := m__law_web_t1) (m := m__law_web_e2) (mkCS (Nc := ["_law_tie", "_law_state_here", "_law_way"]) (js := [none, some 0, some 3]) (defScope (top 14)) ["_law_state_here", "_law_most", "_law_many", "_law_way", "_law_ties", "_law_row", "_law_at", "_law_odd"] (fun _ => rfl) rfl (by decide +kernel)) rfl (si_seq (se_callD D__law_pairs (hr.mono (by decide)) (sa_cons (se_var 2) (sa_nil) st_Name))) (fun C ex s2 H2 => ⟨sg_name 0 (show (["_law_tie", "_law_state_here", "_law_way"] : List Str).Nodup by decide +kernel), sts_one (sb_lt (hu0 hr) (se_callD D__law_take (hr.mono (by decide)) (sa_cons (se_var 1) (sa_cons (se_int) (sa_nil) st_Constant) st_Name)) (se_item (se_lst (sa_cons (se_int) (sa_cons (se_int) (sa_cons (se_int) (sa_nil) st_Constant) st_Constant) st_Constant)) (se_mod (se_var 2) (se_int)))), se_var 0⟩))) (ss_cons (ss_set 5 sc__law_web.nd (se_callD D__law_mixed_row (hr.mono (by decide)) (sa_cons (se_var 0) (sa_cons (se_listRange rfl T.b_list T.b_range (se_var 2)) (sa_nil) st_Call) st_Name))) (ss_cons (ss_if (sb_gt (se_var 3) (se_int)) (ss_cons (ss_set 4 sc__law_web.nd (se_lst (sa_nil))) (ss_cons (ss_for (b := m__law_web_b3) PassesOwn.never rfl (si_range2 T.b_range (se_int) (se_var 2)) (sg_name 6 sc__law_web.nd) (ss_one (ss_expr (se_append (se_var 4) (se_tuple T.b_tuple (se_sorted T.b_sorted (se_lst (sa_cons (se_item (se_var 5) (se_var 6)) (sa_cons (se_item (se_var 5) (se_item (se_lst (by (refine sa_consD (se_sub (se_var 6) (se_int)) ?_ st_BinOp; refine sa_consD (se_sub (se_var 6) (se_int)) ?_ st_BinOp; refine sa_consD (se_int) ?_ st_Constant; refine sa_consD (se_fdiv (se_var 6) (se_int)) ?_ st_BinOp; exact sa_nil))) (se_sub (se_var 3) (se_int)))) (sa_nil) st_Subscript) st_Subscript)))))))) (ss_cons (ss_if (sb_w (sw_and (sb_eq (hu64 hr) (se_var 3) (se_int)) (sw_and1 (sb_gt (se_var 2) (se_int))))) (ss_one (ss_expr (se_append (se_var 4) (se_tuple T.b_tuple (se_sorted T.b_sorted (se_lst (sa_cons (se_item (se_var 5) (se_int)) (sa_cons (se_item (se_var 5) (se_sub (se_var 2) (se_int))) (sa_nil) st_Subscript) st_Subscript))))))) (ss_nil)) (ss_cons (ss_set 7 sc__law_web.nd (se_comp (t := m__law_web_t4) (m := m__law_web_e5) (mkCS (Nc := ["_law_tie", "_law_state_here"]) (js := [none, some 0]) (defScope (top 14)) ["_law_state_here", "_law_most", "_law_many", "_law_way", "_law_ties", "_law_row", "_law_at", "_law_odd"] (fun _ => rfl) rfl (by decide +kernel)) rfl (si_seq (se_callD D__law_pairs (hr.mono (by decide)) (sa_cons (se_var 2) (sa_nil) st_Name))) (fun C ex s2 H2 => ⟨sg_name 0 (show (["_law_tie", "_law_state_here"] : List Str).Nodup by decide +kernel), sts_one (sb_eq (hu64 hr) (se_callD D__law_take (hr.mono (by decide)) (sa_cons (se_var 1) (sa_cons (se_int) (sa_nil) st_Constant) st_Name)) (se_int)), se_var 0⟩))) (ss_one (ss_set 4 sc__law_web.nd (se_comp (t := m__law_web_t6) (m := m__law_web_e7) (mkCS (Nc := ["_law_tie", "_law_ties", "_law_odd"]) (js := [none, some 4, some 7]) (defScope (top 14)) ["_law_state_here", "_law_most", "_law_many", "_law_way", "_law_ties", "_law_row", "_law_at", "_law_odd"] (fun _ => rfl) rfl (by decide +kernel)) rfl (si_seq (se_callD D__law_pairs (hr.mono (by decide)) (sa_cons (se_var 2) (sa_nil) st_Name))) (fun C ex s2 H2 => ⟨sg_name 0 (show (["_law_tie", "_law_ties", "_law_odd"] : List Str).Nodup by decide +kernel), sts_one (sb_ne (hu64 hr) (se_in (hu64 hr) (se_var 0) (se_var 1)) (se_in (hu64 hr) (se_var 0) (se_var 2))), se_var 0⟩)))))))) (ss_nil)) (ss_one (ss_ret (se_tup (sa_cons (se_var 2) (sa_cons (se_tuple T.b_tuple (se_sorted T.b_sorted (se_var 4))) (sa_nil) st_Call) st_Name))))))))
end
end W
end
section
set_option maxRecDepth 100000
set_option maxHeartbeats 8000000
namespace W
open PySem PySem.Spec PyProof.Rows L2 S3 S4
section
variable {P : Program} {w : World} {K : PySem.W.Frag} {mg : Str → Option Value} {base : Heap}
theorem ok_is_web {f : Addr} {fd : FuncData} (F : Fun K "is_web" "is_web" (top 7) f fd) (hm : mg "is_web" = some (.ref f)) (T : Txt K mg) (D_is_whole : DefIs P w K mg base 1 "is_whole" ["thing"] F_is_whole) (D_is_pair : DefIs P w K mg base 1 "is_pair" ["thing"] F_is_pair) (D_is_tie : DefIs P w K mg base 3 "is_tie" ["many", "thing"] F_is_tie) (D_is_rising : DefIs P w K mg base 1 "is_rising" ["things"] F_is_rising) : DefIs P w K mg base 4 "is_web" ["thing"] F_is_web :=
  def_mk (m := m_is_web) F hm (F.binds fun _ _ _ _ _ _ us hl => match us, hl with | [_], _ => rfl) sc_is_web rfl fun cdv A outer s H E hr =>
    ss_cons (ss_if (sb_not (sb_val (se_callD D_is_pair (hr.mono (by decide)) (sa_cons (se_var 0) (sa_nil) st_Name)))) (ss_one (ss_ret (se_bl))) (ss_nil)) (ss_cons (ss_asg (se_var 0) (sg_tup rfl (sgs_cons (sg_name 1 sc_is_web.nd) (sgs_cons (sg_name 2 sc_is_web.nd) (sgs_nil))))) (ss_cons (ss_if (sb_w (sw_or (sb_not (sb_val (se_callD D_is_whole (hr.mono (by decide)) (sa_cons (se_var 1) (sa_nil) st_Name)))) (sw_or (sb_not (sb_chain op_le op_le (opd_int fun _ _ _ _ => .bl _) (opd_int fun _ _ _ _ => .bl _) (se_int) (se_var 1) (se_gintE rfl T.g_MOST_PLACES))) (sw_or1 (sb_not (sb_val (se_isi (Ts := "tuple") T.b_isinstance T.b_tuple (se_var 2)))))))) (ss_one (ss_ret (se_bl))) (ss_nil)) (ss_one (ss_ret (se_and (se_all rfl T.b_all (se_comp (t := m_is_web_t1) (m := m_is_web_e2) (mkCS (Nc := ["tie", "many"]) (js := [none, some 1]) (defScope (top 7)) ["thing", "many", "ties"] (fun _ => rfl) rfl (by decide +kernel)) rfl (si_seq (se_var 2)) (fun C ex s2 H2 => ⟨sg_name 0 (show (["tie", "many"] : List Str).Nodup by decide +kernel), sts_nil, se_callD D_is_tie (hr.mono (by decide)) (sa_cons (se_var 1) (sa_cons (se_var 0) (sa_nil) st_Name) st_Name)⟩))) (se_one (se_callD D_is_rising (hr.mono (by decide)) (sa_cons (se_var 2) (sa_nil) st_Name))))))))
end
end W
end
section
set_option maxRecDepth 100000
set_option maxHeartbeats 8000000
namespace W
open PySem PySem.Spec PyProof.Rows L2 S3 S4
theorem ok_law_fn {P : Program} {w : World} {K : PySem.W.Frag} {mg : Str → Option Value} {base : Heap} {f : Addr} {fd : FuncData} (F : Fun K "law" "law" (top 21) f fd) (T : Txt K mg) (D_is_web : DefIs P w K mg base 4 "is_web" ["thing"] F_is_web) (D__law_state : DefIs P w K mg base 2 "_law_state" ["_law_script", "_law_k"] F__law_state) (D__law_web : DefIs P w K mg base 3 "_law_web" ["_law_state_here", "_law_most"] F__law_web) (D__law_great_web : DefIs P w K mg base 2 "_law_great_web" ["_law_state_here"] F__law_great_web) (D__law_is_web : DefIs P w K mg base 2 "_law_is_web" ["_law_thing"] F__law_is_web) (D__law_bad_web : DefIs P w K mg base 2 "_law_bad_web" ["_law_state_here"] F__law_bad_web) (D__law_same : DefIs P w K mg base 1 "_law_same" ["_law_found", "_law_due"] F__law_same) (D__law_bent : DefIs P w K mg base 2 "_law_bent" ["_law_state_here", "_law_web_here"] F__law_bent) : FnOk P w K mg base CX0 5 f fd ["_law_script"] (spM K F_law) :=
  fn_mk (m := m_law) F sc_law rfl fun cdv A outer s H E hr =>
    ss_cons (ss_for (b := m_law_b5) PassesOwn.never rfl (si_range1 T.b_range (se_max rfl T.b_max (sa_cons (se_int) (sa_cons (se_min rfl T.b_min (sa_cons (se_len T.b_len (se_var 0)) (sa_cons (se_int) (sa_nil) st_Constant) st_Call)) (sa_nil) st_Call) st_Constant))) (sg_name 1 sc_law.nd) (ss_cons (ss_set 2 sc_law.nd (se_callD D__law_state (hr.mono (by decide)) (sa_cons (se_var 0) (sa_cons (se_var 1) (sa_nil) st_Name) st_Name))) (ss_one (ss_for (b := m_law_b4) PassesOwn.never rfl (si_seq (se_lst (sa_cons (se_callD D__law_web (hr.mono (by decide)) (sa_cons (se_var 2) (sa_cons (se_int) (sa_nil) st_Constant) st_Name)) (sa_cons (se_callD D__law_great_web (hr.mono (by decide)) (sa_cons (se_var 2) (sa_nil) st_Name)) (sa_nil) st_Call) st_Call))) (sg_name 3 sc_law.nd) (ss_cons (ss_if (sb_isNot (se_callD D_is_web (hr.mono (by decide)) (sa_cons (se_var 3) (sa_nil) st_Name)) (se_bl)) (ss_one (ss_ret (se_bl))) (ss_nil)) (ss_one (ss_for (b := m_law_b3) PassesOwn.never rfl (si_seq (se_add (se_comp (t := m_law_t1) (m := m_law_e2) (mkCS (Nc := ["_law_turn", "_law_state_here", "_law_web_here"]) (js := [none, some 2, some 3]) (defScope (top 21)) ["_law_script", "_law_k", "_law_state_here", "_law_web_here", "_law_thing"] (fun _ => rfl) rfl (by decide +kernel)) rfl (si_range1 T.b_range (se_int)) (fun C ex s2 H2 => ⟨sg_name 0 (show (["_law_turn", "_law_state_here", "_law_web_here"] : List Str).Nodup by decide +kernel), sts_nil, se_callD D__law_bent (hr.mono (by decide)) (sa_cons (se_var 1) (sa_cons (se_var 2) (sa_nil) st_Name) st_Name)⟩)) (se_lst (sa_cons (se_callD D__law_bad_web (hr.mono (by decide)) (sa_cons (se_var 2) (sa_nil) st_Name)) (sa_nil) st_Call)))) (sg_name 4 sc_law.nd) (ss_one (ss_if (sb_not (sb_val (se_callD D__law_same (hr.mono (by decide)) (sa_cons (se_callD D_is_web (hr.mono (by decide)) (sa_cons (se_var 4) (sa_nil) st_Name)) (sa_cons (se_callD D__law_is_web (hr.mono (by decide)) (sa_cons (se_var 4) (sa_nil) st_Name)) (sa_nil) st_Call) st_Call)))) (ss_one (ss_ret (se_bl))) (ss_nil)))))))))) (ss_one (ss_ret (se_and (se_is (se_callD D_is_web (hr.mono (by decide)) (sa_cons (se_lit 6 rfl) (sa_nil) st_Tuple)) (se_bl)) (se_one (se_is (se_callD D_is_web (hr.mono (by decide)) (sa_cons (se_lit 6 rfl) (sa_nil) st_Tuple)) (se_bl))))))
end W
end
section
set_option maxRecDepth 100000
set_option maxHeartbeats 8000000
namespace W
open PySem PySem.Spec PyProof.Rows L2 S3 S4
theorem all_mk {l : PySem.W.OpenLaw} {w : World} {K : PySem.W.Frag} {h : Heap} {mg : Str → Option Value} {fa : Addr} (X : K.In h) (G : h.Ns mainGlobals mg) (hfa : mg "law" = some (.ref fa))
    {f2 : Addr} {od2 an2 : Option Addr} {sl2 : Array (Option Value)} {oc2 kV2 dc2 pm2 cd2 ct2 : Value}
    (a2 : PySem.W.nsIn K mainGlobals "is_whole" = some (some (.ref f2))) (l2 : K.lookup f2 = some ⟨oc2, od2, .func (PySem.W.fnOf "is_whole" "is_whole" (defArgs (top 2)) (defBody (top 2)) (defScope (top 2)) .none kV2 dc2 pm2 an2 cd2 ct2), sl2⟩) (c2 : PySem.W.codeIn K cd2 "is_whole" = true) (k2 : PySem.W.keepIn K (.ref f2) = true)
    {f3 : Addr} {od3 an3 : Option Addr} {sl3 : Array (Option Value)} {oc3 kV3 dc3 pm3 cd3 ct3 : Value}
    (a3 : PySem.W.nsIn K mainGlobals "is_pair" = some (some (.ref f3))) (l3 : K.lookup f3 = some ⟨oc3, od3, .func (PySem.W.fnOf "is_pair" "is_pair" (defArgs (top 3)) (defBody (top 3)) (defScope (top 3)) .none kV3 dc3 pm3 an3 cd3 ct3), sl3⟩) (c3 : PySem.W.codeIn K cd3 "is_pair" = true) (k3 : PySem.W.keepIn K (.ref f3) = true)
    {f4 : Addr} {od4 an4 : Option Addr} {sl4 : Array (Option Value)} {oc4 kV4 dc4 pm4 cd4 ct4 : Value}
    (a4 : PySem.W.nsIn K mainGlobals "is_place" = some (some (.ref f4))) (l4 : K.lookup f4 = some ⟨oc4, od4, .func (PySem.W.fnOf "is_place" "is_place" (defArgs (top 4)) (defBody (top 4)) (defScope (top 4)) .none kV4 dc4 pm4 an4 cd4 ct4), sl4⟩) (c4 : PySem.W.codeIn K cd4 "is_place" = true) (k4 : PySem.W.keepIn K (.ref f4) = true)
    {f5 : Addr} {od5 an5 : Option Addr} {sl5 : Array (Option Value)} {oc5 kV5 dc5 pm5 cd5 ct5 : Value}
    (a5 : PySem.W.nsIn K mainGlobals "is_tie" = some (some (.ref f5))) (l5 : K.lookup f5 = some ⟨oc5, od5, .func (PySem.W.fnOf "is_tie" "is_tie" (defArgs (top 5)) (defBody (top 5)) (defScope (top 5)) .none kV5 dc5 pm5 an5 cd5 ct5), sl5⟩) (c5 : PySem.W.codeIn K cd5 "is_tie" = true) (k5 : PySem.W.keepIn K (.ref f5) = true)
    {f6 : Addr} {od6 an6 : Option Addr} {sl6 : Array (Option Value)} {oc6 kV6 dc6 pm6 cd6 ct6 : Value}
    (a6 : PySem.W.nsIn K mainGlobals "is_rising" = some (some (.ref f6))) (l6 : K.lookup f6 = some ⟨oc6, od6, .func (PySem.W.fnOf "is_rising" "is_rising" (defArgs (top 6)) (defBody (top 6)) (defScope (top 6)) .none kV6 dc6 pm6 an6 cd6 ct6), sl6⟩) (c6 : PySem.W.codeIn K cd6 "is_rising" = true) (k6 : PySem.W.keepIn K (.ref f6) = true)
    {f7 : Addr} {od7 an7 : Option Addr} {sl7 : Array (Option Value)} {oc7 kV7 dc7 pm7 cd7 ct7 : Value}
    (a7 : PySem.W.nsIn K mainGlobals "is_web" = some (some (.ref f7))) (l7 : K.lookup f7 = some ⟨oc7, od7, .func (PySem.W.fnOf "is_web" "is_web" (defArgs (top 7)) (defBody (top 7)) (defScope (top 7)) .none kV7 dc7 pm7 an7 cd7 ct7), sl7⟩) (c7 : PySem.W.codeIn K cd7 "is_web" = true) (k7 : PySem.W.keepIn K (.ref f7) = true)
    {f9 : Addr} {od9 an9 : Option Addr} {sl9 : Array (Option Value)} {oc9 kV9 dc9 pm9 cd9 ct9 : Value}
    (a9 : PySem.W.nsIn K mainGlobals "_law_cell_at" = some (some (.ref f9))) (l9 : K.lookup f9 = some ⟨oc9, od9, .func (PySem.W.fnOf "_law_cell_at" "_law_cell_at" (defArgs (top 9)) (defBody (top 9)) (defScope (top 9)) .none kV9 dc9 pm9 an9 cd9 ct9), sl9⟩) (c9 : PySem.W.codeIn K cd9 "_law_cell_at" = true) (k9 : PySem.W.keepIn K (.ref f9) = true)
    {f10 : Addr} {od10 an10 : Option Addr} {sl10 : Array (Option Value)} {oc10 kV10 dc10 pm10 cd10 ct10 : Value}
    (a10 : PySem.W.nsIn K mainGlobals "_law_state" = some (some (.ref f10))) (l10 : K.lookup f10 = some ⟨oc10, od10, .func (PySem.W.fnOf "_law_state" "_law_state" (defArgs (top 10)) (defBody (top 10)) (defScope (top 10)) .none kV10 dc10 pm10 an10 cd10 ct10), sl10⟩) (c10 : PySem.W.codeIn K cd10 "_law_state" = true) (k10 : PySem.W.keepIn K (.ref f10) = true)
    {f11 : Addr} {od11 an11 : Option Addr} {sl11 : Array (Option Value)} {oc11 kV11 dc11 pm11 cd11 ct11 : Value}
    (a11 : PySem.W.nsIn K mainGlobals "_law_take" = some (some (.ref f11))) (l11 : K.lookup f11 = some ⟨oc11, od11, .func (PySem.W.fnOf "_law_take" "_law_take" (defArgs (top 11)) (defBody (top 11)) (defScope (top 11)) .none kV11 dc11 pm11 an11 cd11 ct11), sl11⟩) (c11 : PySem.W.codeIn K cd11 "_law_take" = true) (k11 : PySem.W.keepIn K (.ref f11) = true)
    {f12 : Addr} {od12 an12 : Option Addr} {sl12 : Array (Option Value)} {oc12 kV12 dc12 pm12 cd12 ct12 : Value}
    (a12 : PySem.W.nsIn K mainGlobals "_law_pairs" = some (some (.ref f12))) (l12 : K.lookup f12 = some ⟨oc12, od12, .func (PySem.W.fnOf "_law_pairs" "_law_pairs" (defArgs (top 12)) (defBody (top 12)) (defScope (top 12)) .none kV12 dc12 pm12 an12 cd12 ct12), sl12⟩) (c12 : PySem.W.codeIn K cd12 "_law_pairs" = true) (k12 : PySem.W.keepIn K (.ref f12) = true)
    {f13 : Addr} {od13 an13 : Option Addr} {sl13 : Array (Option Value)} {oc13 kV13 dc13 pm13 cd13 ct13 : Value}
    (a13 : PySem.W.nsIn K mainGlobals "_law_mixed_row" = some (some (.ref f13))) (l13 : K.lookup f13 = some ⟨oc13, od13, .func (PySem.W.fnOf "_law_mixed_row" "_law_mixed_row" (defArgs (top 13)) (defBody (top 13)) (defScope (top 13)) .none kV13 dc13 pm13 an13 cd13 ct13), sl13⟩) (c13 : PySem.W.codeIn K cd13 "_law_mixed_row" = true) (k13 : PySem.W.keepIn K (.ref f13) = true)
    {f14 : Addr} {od14 an14 : Option Addr} {sl14 : Array (Option Value)} {oc14 kV14 dc14 pm14 cd14 ct14 : Value}
    (a14 : PySem.W.nsIn K mainGlobals "_law_web" = some (some (.ref f14))) (l14 : K.lookup f14 = some ⟨oc14, od14, .func (PySem.W.fnOf "_law_web" "_law_web" (defArgs (top 14)) (defBody (top 14)) (defScope (top 14)) .none kV14 dc14 pm14 an14 cd14 ct14), sl14⟩) (c14 : PySem.W.codeIn K cd14 "_law_web" = true) (k14 : PySem.W.keepIn K (.ref f14) = true)
    {f15 : Addr} {od15 an15 : Option Addr} {sl15 : Array (Option Value)} {oc15 kV15 dc15 pm15 cd15 ct15 : Value}
    (a15 : PySem.W.nsIn K mainGlobals "_law_great_web" = some (some (.ref f15))) (l15 : K.lookup f15 = some ⟨oc15, od15, .func (PySem.W.fnOf "_law_great_web" "_law_great_web" (defArgs (top 15)) (defBody (top 15)) (defScope (top 15)) .none kV15 dc15 pm15 an15 cd15 ct15), sl15⟩) (c15 : PySem.W.codeIn K cd15 "_law_great_web" = true) (k15 : PySem.W.keepIn K (.ref f15) = true)
    {f16 : Addr} {od16 an16 : Option Addr} {sl16 : Array (Option Value)} {oc16 kV16 dc16 pm16 cd16 ct16 : Value}
    (a16 : PySem.W.nsIn K mainGlobals "_law_whole" = some (some (.ref f16))) (l16 : K.lookup f16 = some ⟨oc16, od16, .func (PySem.W.fnOf "_law_whole" "_law_whole" (defArgs (top 16)) (defBody (top 16)) (defScope (top 16)) .none kV16 dc16 pm16 an16 cd16 ct16), sl16⟩) (c16 : PySem.W.codeIn K cd16 "_law_whole" = true) (k16 : PySem.W.keepIn K (.ref f16) = true)
    {f17 : Addr} {od17 an17 : Option Addr} {sl17 : Array (Option Value)} {oc17 kV17 dc17 pm17 cd17 ct17 : Value}
    (a17 : PySem.W.nsIn K mainGlobals "_law_is_web" = some (some (.ref f17))) (l17 : K.lookup f17 = some ⟨oc17, od17, .func (PySem.W.fnOf "_law_is_web" "_law_is_web" (defArgs (top 17)) (defBody (top 17)) (defScope (top 17)) .none kV17 dc17 pm17 an17 cd17 ct17), sl17⟩) (c17 : PySem.W.codeIn K cd17 "_law_is_web" = true) (k17 : PySem.W.keepIn K (.ref f17) = true)
    {f18 : Addr} {od18 an18 : Option Addr} {sl18 : Array (Option Value)} {oc18 kV18 dc18 pm18 cd18 ct18 : Value}
    (a18 : PySem.W.nsIn K mainGlobals "_law_bad_web" = some (some (.ref f18))) (l18 : K.lookup f18 = some ⟨oc18, od18, .func (PySem.W.fnOf "_law_bad_web" "_law_bad_web" (defArgs (top 18)) (defBody (top 18)) (defScope (top 18)) .none kV18 dc18 pm18 an18 cd18 ct18), sl18⟩) (c18 : PySem.W.codeIn K cd18 "_law_bad_web" = true) (k18 : PySem.W.keepIn K (.ref f18) = true)
    {f19 : Addr} {od19 an19 : Option Addr} {sl19 : Array (Option Value)} {oc19 kV19 dc19 pm19 cd19 ct19 : Value}
    (a19 : PySem.W.nsIn K mainGlobals "_law_same" = some (some (.ref f19))) (l19 : K.lookup f19 = some ⟨oc19, od19, .func (PySem.W.fnOf "_law_same" "_law_same" (defArgs (top 19)) (defBody (top 19)) (defScope (top 19)) .none kV19 dc19 pm19 an19 cd19 ct19), sl19⟩) (c19 : PySem.W.codeIn K cd19 "_law_same" = true) (k19 : PySem.W.keepIn K (.ref f19) = true)
    {f20 : Addr} {od20 an20 : Option Addr} {sl20 : Array (Option Value)} {oc20 kV20 dc20 pm20 cd20 ct20 : Value}
    (a20 : PySem.W.nsIn K mainGlobals "_law_bent" = some (some (.ref f20))) (l20 : K.lookup f20 = some ⟨oc20, od20, .func (PySem.W.fnOf "_law_bent" "_law_bent" (defArgs (top 20)) (defBody (top 20)) (defScope (top 20)) .none kV20 dc20 pm20 an20 cd20 ct20), sl20⟩) (c20 : PySem.W.codeIn K cd20 "_law_bent" = true) (k20 : PySem.W.keepIn K (.ref f20) = true)
    {f21 : Addr} {od21 an21 : Option Addr} {sl21 : Array (Option Value)} {oc21 kV21 dc21 pm21 cd21 ct21 : Value}
    (a21 : PySem.W.nsIn K mainGlobals "law" = some (some (.ref f21))) (l21 : K.lookup f21 = some ⟨oc21, od21, .func (PySem.W.fnOf "law" "law" (defArgs (top 21)) (defBody (top 21)) (defScope (top 21)) .none kV21 dc21 pm21 an21 cd21 ct21), sl21⟩) (c21 : PySem.W.codeIn K cd21 "law" = true) (k21 : PySem.W.keepIn K (.ref f21) = true)
    (z_all : PySem.W.nsIn K mainGlobals "all" = some none)
    (z_bool : PySem.W.nsIn K mainGlobals "bool" = some none)
    (z_int : PySem.W.nsIn K mainGlobals "int" = some none)
    (z_isinstance : PySem.W.nsIn K mainGlobals "isinstance" = some none)
    (z_len : PySem.W.nsIn K mainGlobals "len" = some none)
    (z_list : PySem.W.nsIn K mainGlobals "list" = some none)
    (z_max : PySem.W.nsIn K mainGlobals "max" = some none)
    (z_min : PySem.W.nsIn K mainGlobals "min" = some none)
    (z_range : PySem.W.nsIn K mainGlobals "range" = some none)
    (z_set : PySem.W.nsIn K mainGlobals "set" = some none)
    (z_sorted : PySem.W.nsIn K mainGlobals "sorted" = some none)
    (z_str : PySem.W.nsIn K mainGlobals "str" = some none)
    (z_tuple : PySem.W.nsIn K mainGlobals "tuple" = some none)
    (z_zip : PySem.W.nsIn K mainGlobals "zip" = some none)
    {t_MOST_PLACES : Tok} (z_MOST_PLACES : PySem.W.nsIn K mainGlobals "MOST_PLACES" = some (some (.int 14 t_MOST_PLACES)))
    : ∃ fd : FuncData, (∀ (s : Shared) (v : Value), BindsTo s fd ⟨[v], []⟩ [("_law_script", v)]) ∧ ∀ base : Heap, K.In base → base.Ns mainGlobals mg → FnOk l.prog w K mg base CX0 5 fa fd ["_law_script"] (spM K F_law) := by
  have e := hfa.symm.trans (PySem.W.mg_of X G a21)
  cases e
  have T : Txt K mg := ⟨PySem.W.mg_none_of X G z_all, PySem.W.mg_none_of X G z_bool, PySem.W.mg_none_of X G z_int, PySem.W.mg_none_of X G z_isinstance, PySem.W.mg_none_of X G z_len, PySem.W.mg_none_of X G z_list, PySem.W.mg_none_of X G z_max, PySem.W.mg_none_of X G z_min, PySem.W.mg_none_of X G z_range, PySem.W.mg_none_of X G z_set, PySem.W.mg_none_of X G z_sorted, PySem.W.mg_none_of X G z_str, PySem.W.mg_none_of X G z_tuple, PySem.W.mg_none_of X G z_zip, ⟨_, PySem.W.mg_of X G z_MOST_PLACES⟩⟩
  have F2 := fun_mk (st := top 2) l2 c2 k2
  have F3 := fun_mk (st := top 3) l3 c3 k3
  have F4 := fun_mk (st := top 4) l4 c4 k4
  have F5 := fun_mk (st := top 5) l5 c5 k5
  have F6 := fun_mk (st := top 6) l6 c6 k6
  have F7 := fun_mk (st := top 7) l7 c7 k7
  have F9 := fun_mk (st := top 9) l9 c9 k9
  have F10 := fun_mk (st := top 10) l10 c10 k10
  have F11 := fun_mk (st := top 11) l11 c11 k11
  have F12 := fun_mk (st := top 12) l12 c12 k12
  have F13 := fun_mk (st := top 13) l13 c13 k13
  have F14 := fun_mk (st := top 14) l14 c14 k14
  have F15 := fun_mk (st := top 15) l15 c15 k15
  have F16 := fun_mk (st := top 16) l16 c16 k16
  have F17 := fun_mk (st := top 17) l17 c17 k17
  have F18 := fun_mk (st := top 18) l18 c18 k18
  have F19 := fun_mk (st := top 19) l19 c19 k19
  have F20 := fun_mk (st := top 20) l20 c20 k20
  have F21 := fun_mk (st := top 21) l21 c21 k21
  refine ⟨PySem.W.fnOf "law" "law" (defArgs (top 21)) (defBody (top 21)) (defScope (top 21)) .none kV21 dc21 pm21 an21 cd21 ct21, fun s v => .of_eq rfl, fun base _ _ => ?_⟩
  have D_is_whole : DefIs l.prog w K mg base 1 "is_whole" ["thing"] F_is_whole := ok_is_whole F2 (PySem.W.mg_of X G a2) T
  have D_is_pair : DefIs l.prog w K mg base 1 "is_pair" ["thing"] F_is_pair := ok_is_pair F3 (PySem.W.mg_of X G a3) T
  have D_is_rising : DefIs l.prog w K mg base 1 "is_rising" ["things"] F_is_rising := ok_is_rising F6 (PySem.W.mg_of X G a6) T
  have D__law_cell_at : DefIs l.prog w K mg base 1 "_law_cell_at" ["_law_script", "_law_k"] F__law_cell_at := ok__law_cell_at F9 (PySem.W.mg_of X G a9) T
  have D__law_take : DefIs l.prog w K mg base 1 "_law_take" ["_law_state_here", "_law_many"] F__law_take := ok__law_take F11 (PySem.W.mg_of X G a11) T
  have D__law_pairs : DefIs l.prog w K mg base 1 "_law_pairs" ["_law_many"] F__law_pairs := ok__law_pairs F12 (PySem.W.mg_of X G a12) T
  have D__law_whole : DefIs l.prog w K mg base 1 "_law_whole" ["_law_thing"] F__law_whole := ok__law_whole F16 (PySem.W.mg_of X G a16) T
  have D__law_same : DefIs l.prog w K mg base 1 "_law_same" ["_law_found", "_law_due"] F__law_same := ok__law_same F19 (PySem.W.mg_of X G a19) T
  have D_is_place : DefIs l.prog w K mg base 2 "is_place" ["many", "thing"] F_is_place := ok_is_place F4 (PySem.W.mg_of X G a4) T D_is_whole
  have D__law_state : DefIs l.prog w K mg base 2 "_law_state" ["_law_script", "_law_k"] F__law_state := ok__law_state F10 (PySem.W.mg_of X G a10) T D__law_cell_at
  have D__law_mixed_row : DefIs l.prog w K mg base 2 "_law_mixed_row" ["_law_state_here", "_law_things"] F__law_mixed_row := ok__law_mixed_row F13 (PySem.W.mg_of X G a13) T D__law_take
  have D__law_great_web : DefIs l.prog w K mg base 2 "_law_great_web" ["_law_state_here"] F__law_great_web := ok__law_great_web F15 (PySem.W.mg_of X G a15) T D__law_take
  have D__law_is_web : DefIs l.prog w K mg base 2 "_law_is_web" ["_law_thing"] F__law_is_web := ok__law_is_web F17 (PySem.W.mg_of X G a17) T D__law_whole
  have D__law_bad_web : DefIs l.prog w K mg base 2 "_law_bad_web" ["_law_state_here"] F__law_bad_web := ok__law_bad_web F18 (PySem.W.mg_of X G a18) T D__law_take
  have D__law_bent : DefIs l.prog w K mg base 2 "_law_bent" ["_law_state_here", "_law_web_here"] F__law_bent := ok__law_bent F20 (PySem.W.mg_of X G a20) T D__law_take
  have D_is_tie : DefIs l.prog w K mg base 3 "is_tie" ["many", "thing"] F_is_tie := ok_is_tie F5 (PySem.W.mg_of X G a5) T D_is_pair D_is_place
  have D__law_web : DefIs l.prog w K mg base 3 "_law_web" ["_law_state_here", "_law_most"] F__law_web := ok__law_web F14 (PySem.W.mg_of X G a14) T D__law_take D__law_pairs D__law_mixed_row
  have D_is_web : DefIs l.prog w K mg base 4 "is_web" ["thing"] F_is_web := ok_is_web F7 (PySem.W.mg_of X G a7) T D_is_whole D_is_pair D_is_tie D_is_rising
  exact ok_law_fn F21 T D_is_web D__law_state D__law_web D__law_great_web D__law_is_web D__law_bad_web D__law_same D__law_bent
end W
end
section
set_option maxRecDepth 100000
set_option maxHeartbeats 4000000
namespace S3
open PySem PySem.Spec PyProof.Rows L2 S4
def runs {α : Type} (c : M α) (S : Store) (Q : α → Store → Prop) : Prop := ∃ a S', c S = some (.ok a, S') ∧ Q a S'
section
variable {α β : Type} {c : M α} {f : α → M β} {S : Store} {Q Q' : α → Store → Prop} {R : β → Store → Prop}
theorem runs_of {a : α} {S1 : Store} (h : c S = some (.ok a, S1)) : runs c S Q ↔ Q a S1 := by
  constructor
  · rintro ⟨a', S', e, q⟩
    rw [h] at e; cases e; exact q
  · exact fun q => ⟨a, S1, h, q⟩
theorem runs_no (h : c S = none) : runs c S Q ↔ False := by
  constructor
  · rintro ⟨a', S', e, q⟩
    rw [h] at e; cases e
  · exact fun q => q.elim
theorem runs_bind : runs (c >>= f) S R ↔ runs c S (fun a S1 => runs (f a) S1 R) := by
  have e : ∀ r, c S = r → (c >>= f) S = (match r with | some (.ok a, S') => f a S' | some (.ex x, S') => some (.ex x, S') | none => none) := fun r h => by rw [← h]; rfl
  cases q : c S with
  | none => rw [runs_no q, runs_no (e _ q)]
  | some p =>
    obtain ⟨r, S1⟩ := p
    cases r with
    | ok a =>
      rw [runs_of q]
      unfold runs
      rw [e _ q]
    | ex x =>
      constructor
      · rintro ⟨a', S', e', _⟩
        rw [e _ q] at e'; cases e'
      · rintro ⟨a', S', e', _⟩
        rw [q] at e'; cases e'
theorem runs_pure {a : α} : runs (pure a) S Q ↔ Q a S := by
  show (∃ a' S', some (Res.ok a, S) = some (.ok a', S') ∧ Q a' S') ↔ Q a S
  constructor
  · rintro ⟨a', S', e, h⟩
    cases e; exact h
  · exact fun h => ⟨a, S, rfl, h⟩
theorem runs_fail : runs (M.fail : M α) S Q ↔ False := by
  constructor
  · rintro ⟨_, _, e, _⟩; cases e
  · exact fun h => h.elim
theorem runs_mono (h : runs c S Q) (k : ∀ a S', Q a S' → Q' a S') : runs c S Q' := let ⟨a, S', e, q⟩ := h; ⟨a, S', e, k a S' q⟩
theorem runs_ite {p : Prop} [Decidable p] {x y : M α} : runs (if p then x else y) S Q ↔ if p then runs x S Q else runs y S Q := by split <;> exact .rfl
end
section
variable {S : Store} {Q : D → Store → Prop}
theorem runs_getL {k : Nat} {Q : List D → Store → Prop} : runs (getL k) S Q ↔ ∃ xs, S[k]? = some xs ∧ Q xs S := by
  cases q : S[k]? with
  | none =>
    rw [runs_no (by unfold getL; rw [q]; rfl)]
    simp
  | some xs =>
    rw [runs_of (a := xs) (S1 := S) (by unfold getL; rw [q]; rfl)]
    simp
theorem runs_newL {ds : List D} : runs (newL ds) S Q ↔ ds.length ≤ lim ∧ Q (.lst S.length) (S ++ [ds]) := by
  by_cases h : ds.length ≤ lim
  · rw [runs_of (by unfold newL; rw [if_pos h])]; simp [h]
  · rw [runs_no (by unfold newL; rw [if_neg h])]; simp [h]
theorem runs_setL {k : Nat} {ds : List D} : runs (setL k ds) S Q ↔ (ds.length ≤ lim ∧ k < S.length) ∧ Q .non (S.set k ds) := by
  by_cases h : ds.length ≤ lim ∧ k < S.length
  · rw [runs_of (by unfold setL; rw [if_pos h])]; simp [h]
  · rw [runs_no (by unfold setL; rw [if_neg h])]; simp only [h, false_and]
theorem runs_mkTup {ds : List D} : runs (mkTup ds) S Q ↔ ds.length ≤ lim ∧ Q (.tup ds) S := by
  unfold mkTup
  rw [runs_ite]
  by_cases h : ds.length ≤ lim
  · rw [if_pos h, runs_pure]; simp [h]
  · rw [if_neg h, runs_fail]; simp [h]
theorem runs_asB {b : Bool} {Q : Bool → Store → Prop} : runs (asB (.bl b)) S Q ↔ Q b S := runs_pure
theorem runs_asI {b : Int} {Q : Int → Store → Prop} : runs (asI (.int b)) S Q ↔ Q b S := runs_pure
theorem runs_chkM {it : Iter} {Q : Unit → Store → Prop} : runs (chkM it) S Q ↔ it.okS S ∧ Q () S := by
  by_cases h : it.okS S
  · rw [runs_of (by unfold chkM; rw [if_pos h])]; simp [h]
  · rw [runs_no (by unfold chkM; rw [if_neg h])]; simp [h]
theorem runs_isi {f : String → Bool} {d : D} (h : ∀ ds, d ≠ .ro ds) : runs (isiD f d) S Q ↔ Q (.bl (f (dTy d))) S := by
  cases d with
  | ro ds => exact absurd rfl (h ds)
  | _ => exact runs_pure
theorem runs_eq {f : PyData → PyData → Bool} {a b : D} {p q : PyData} (h1 : toP S 60 a = some p) (h2 : toP S 60 b = some q) : runs (eqM f a b) S Q ↔ Q (.bl (f p q)) S := by
  rw [runs_of (by unfold eqM; rw [h1, h2])]
theorem runs_in {f : Bool → Bool} {a b : D} {p q : PyData} {r : Bool} (h1 : toP S 60 a = some p) (h2 : toP S 60 b = some q) (h3 : inP f p q = some r) : runs (inM f a b) S Q ↔ Q (.bl r) S := by
  rw [runs_of (by unfold inM; rw [h1, h2]; simp only [h3]; rfl)]
theorem runs_for {it : Iter} {g : TMG} {b : TMS} {Q : Out → Store → Prop} (I : List D → Env0 → Store → Prop) (hchk : ∀ ds ρ S, I ds ρ S → it.okS S)
    (hend : ∀ ρ S, I [] ρ S → Q (.nx ρ) S)
    (hturn : ∀ d ds ρ S, I (d :: ds) ρ S → runs (g d ρ) S (fun ρ1 S1 => runs (b ρ1) S1 (fun o S2 => match o with | .nx ρ' => I ds ρ' S2 | .ct ρ' => I ds ρ' S2 | .bk ρ' => Q (.nx ρ') S2 | .ret r => Q (.ret r) S2))) :
    ∀ ds ρ S, I ds ρ S → runs (forD it g b ds ρ) S Q
  | [], ρ, S, h => by
    unfold forD
    rw [runs_bind, runs_chkM]
    exact ⟨hchk _ _ _ h, runs_pure.mpr (hend _ _ h)⟩
  | d :: ds, ρ, S, h => by
    unfold forD
    rw [runs_bind, runs_chkM]
    refine ⟨hchk _ _ _ h, ?_⟩
    rw [runs_bind]
    refine runs_mono (hturn d ds ρ S h) fun ρ1 S1 h1 => ?_
    rw [runs_bind]
    refine runs_mono h1 fun o S2 h2 => ?_
    cases o with
    | nx ρ' => exact runs_for I hchk hend hturn ds ρ' S2 h2
    | ct ρ' => exact runs_for I hchk hend hturn ds ρ' S2 h2
    | bk ρ' => exact runs_pure.mpr h2
    | ret r => exact runs_pure.mpr h2
theorem runs_compD {it : Iter} {g : TMG} {t : TMB} {m : TM} {Q : List D → Store → Prop} (I : List D → Env0 → List D → Store → Prop) (hchk : ∀ ds ρ ys S, I ds ρ ys S → it.okS S)
    (hturn : ∀ d ds ρ ys S, I (d :: ds) ρ ys S → runs (g d ρ) S (fun ρ1 S1 => runs (t ρ1) S1 (fun k S2 => if k = true then runs (m ρ1) S2 (fun y S3 => I ds ρ1 (ys ++ [y]) S3) else I ds ρ1 ys S2))) :
    ∀ ds ρ ys S, I ds ρ ys S → (∀ ρ zs S', I [] ρ (ys ++ zs) S' → Q zs S') → runs (compD it g t m ds ρ) S Q
  | [], ρ, ys, S, h, hq => by
    unfold compD
    rw [runs_bind, runs_chkM]
    exact ⟨hchk _ _ _ _ h, runs_pure.mpr (hq ρ [] S (by rw [List.append_nil]; exact h))⟩
  | d :: ds, ρ, ys, S, h, hq => by
    unfold compD
    rw [runs_bind, runs_chkM]
    refine ⟨hchk _ _ _ _ h, ?_⟩
    rw [runs_bind]
    refine runs_mono (hturn d ds ρ ys S h) fun ρ1 S1 h1 => ?_
    rw [runs_bind]
    refine runs_mono h1 fun k S2 h2 => ?_
    cases k with
    | false => exact runs_compD I hchk hturn ds ρ1 ys S2 h2 hq
    | true =>
      rw [if_pos rfl] at h2
      rw [if_pos rfl, runs_bind]
      refine runs_mono h2 fun y S3 h3 => ?_
      rw [runs_bind]
      refine runs_compD I hchk hturn ds ρ1 (ys ++ [y]) S3 h3 fun ρ' zs S' h4 => ?_
      exact runs_pure.mpr (hq ρ' (y :: zs) S' (by rw [List.append_assoc] at h4; exact h4))
theorem runs_compAll {it : Iter} {g : TMG} {t : TMB} {m : TM} {ρ : Env0} {Q : List D → Store → Prop} (hl : it.items.length ≤ lim) (I : List D → Env0 → List D → Store → Prop) (hchk : ∀ ds ρ ys S, I ds ρ ys S → it.okS S)
    (hturn : ∀ d ds ρ ys S, I (d :: ds) ρ ys S → runs (g d ρ) S (fun ρ1 S1 => runs (t ρ1) S1 (fun k S2 => if k = true then runs (m ρ1) S2 (fun y S3 => I ds ρ1 (ys ++ [y]) S3) else I ds ρ1 ys S2)))
    (h : I it.items ρ [] S) (hq : ∀ ρ zs S', I [] ρ zs S' → Q zs S') : runs (compAll it g t m ρ) S Q := by
  unfold compAll
  rw [if_pos hl]
  exact runs_compD I hchk hturn it.items ρ [] S h fun ρ' zs S' h' => hq ρ' zs S' h'
end
end S3
end
section
set_option maxRecDepth 100000
set_option maxHeartbeats 2000000
namespace W
open PySem PySem.Spec PyProof.Rows L2 S3 S4
theorem rdV_0 {d : D} {r : Env0} : rdV (some d :: r) 0 = pure d := rfl
theorem rdV_1 {o0 : Option D} {d : D} {r : Env0} : rdV (o0 :: some d :: r) 1 = pure d := rfl
theorem rdV_2 {o0 o1 : Option D} {d : D} {r : Env0} : rdV (o0 :: o1 :: some d :: r) 2 = pure d := rfl
theorem rdV_3 {o0 o1 o2 : Option D} {d : D} {r : Env0} : rdV (o0 :: o1 :: o2 :: some d :: r) 3 = pure d := rfl
theorem rdV_4 {o0 o1 o2 o3 : Option D} {d : D} {r : Env0} : rdV (o0 :: o1 :: o2 :: o3 :: some d :: r) 4 = pure d := rfl
theorem rdV_5 {o0 o1 o2 o3 o4 : Option D} {d : D} {r : Env0} : rdV (o0 :: o1 :: o2 :: o3 :: o4 :: some d :: r) 5 = pure d := rfl
theorem rdV_6 {o0 o1 o2 o3 o4 o5 : Option D} {d : D} {r : Env0} : rdV (o0 :: o1 :: o2 :: o3 :: o4 :: o5 :: some d :: r) 6 = pure d := rfl
theorem rdV_7 {o0 o1 o2 o3 o4 o5 o6 : Option D} {d : D} {r : Env0} : rdV (o0 :: o1 :: o2 :: o3 :: o4 :: o5 :: o6 :: some d :: r) 7 = pure d := rfl
theorem rdV_8 {o0 o1 o2 o3 o4 o5 o6 o7 : Option D} {d : D} {r : Env0} : rdV (o0 :: o1 :: o2 :: o3 :: o4 :: o5 :: o6 :: o7 :: some d :: r) 8 = pure d := rfl
theorem rdV_9 {o0 o1 o2 o3 o4 o5 o6 o7 o8 : Option D} {d : D} {r : Env0} : rdV (o0 :: o1 :: o2 :: o3 :: o4 :: o5 :: o6 :: o7 :: o8 :: some d :: r) 9 = pure d := rfl
theorem rdV_10 {o0 o1 o2 o3 o4 o5 o6 o7 o8 o9 : Option D} {d : D} {r : Env0} : rdV (o0 :: o1 :: o2 :: o3 :: o4 :: o5 :: o6 :: o7 :: o8 :: o9 :: some d :: r) 10 = pure d := rfl
theorem rdV_11 {o0 o1 o2 o3 o4 o5 o6 o7 o8 o9 o10 : Option D} {d : D} {r : Env0} : rdV (o0 :: o1 :: o2 :: o3 :: o4 :: o5 :: o6 :: o7 :: o8 :: o9 :: o10 :: some d :: r) 11 = pure d := rfl
theorem rdV_12 {o0 o1 o2 o3 o4 o5 o6 o7 o8 o9 o10 o11 : Option D} {d : D} {r : Env0} : rdV (o0 :: o1 :: o2 :: o3 :: o4 :: o5 :: o6 :: o7 :: o8 :: o9 :: o10 :: o11 :: some d :: r) 12 = pure d := rfl
theorem rdV_13 {o0 o1 o2 o3 o4 o5 o6 o7 o8 o9 o10 o11 o12 : Option D} {d : D} {r : Env0} : rdV (o0 :: o1 :: o2 :: o3 :: o4 :: o5 :: o6 :: o7 :: o8 :: o9 :: o10 :: o11 :: o12 :: some d :: r) 13 = pure d := rfl
theorem rdV_14 {o0 o1 o2 o3 o4 o5 o6 o7 o8 o9 o10 o11 o12 o13 : Option D} {d : D} {r : Env0} : rdV (o0 :: o1 :: o2 :: o3 :: o4 :: o5 :: o6 :: o7 :: o8 :: o9 :: o10 :: o11 :: o12 :: o13 :: some d :: r) 14 = pure d := rfl
theorem runs_fn {N n : Nat} {m : TMS} {ds : List D} {S : Store} {Q : D → Store → Prop} (h : ds.length = n) : runs (fnD N n m ds) S Q ↔ runs (m (ds.map some ++ List.replicate (N - n) none)) S (fun o S' => runs (outD o) S' Q) := by
  unfold fnD
  rw [if_pos h, runs_bind]
def wholeB : D → Bool
  | .int _ => true
  | _ => false
abbrev nr0 (d : D) : Prop := ∀ ds, d ≠ .ro ds
theorem r_whole {d : D} {S : Store} {Q : D → Store → Prop} (h : nr0 d) : runs (F_is_whole [d]) S Q ↔ Q (.bl (wholeB d)) S := by
  unfold F_is_whole m_is_whole
  refine (runs_fn rfl).trans ?_
  simp only [List.map_cons, List.map_nil, List.replicate, List.cons_append, List.nil_append, runs_bind, rdV_0, runs_pure, runs_isi h, runs_asB, runs_ite, outD]
  cases d with
  | ro ds => exact absurd rfl (h ds)
  | _ => simp [dTy, sub1, wholeB]
def pairB : D → Bool
  | .tup [_, _] => true
  | _ => false
theorem toP_int {S : Store} {n : Nat} {i : Int} : toP S n (.int i) = some (.int i) := by cases n <;> rfl
theorem toP_bl {S : Store} {n : Nat} {b : Bool} : toP S n (.bl b) = some (.bool b) := by cases n <;> rfl
theorem eq_int {S : Store} {a b : Int} {Q : D → Store → Prop} : runs (eqD (.int a) (.int b)) S Q ↔ Q (.bl (decide (a = b))) S := by
  unfold eqD
  rw [runs_eq toP_int toP_int]
  have : PyData.eqv (.int a) (.int b) = decide (a = b) := by
    simp only [PyData.eqv]
    rw [Bool.eq_iff_iff]; simp
  rw [this]
theorem r_pair {d : D} {S : Store} {Q : D → Store → Prop} (h : nr0 d) : runs (F_is_pair [d]) S Q ↔ Q (.bl (pairB d)) S := by
  unfold F_is_pair m_is_pair
  refine (runs_fn rfl).trans ?_
  simp only [List.map_cons, List.map_nil, List.replicate, List.cons_append, List.nil_append, runs_bind, rdV_0, runs_pure, runs_isi h, runs_asB, runs_ite, outD]
  cases d with
  | ro ds => exact absurd rfl (h ds)
  | tup ds =>
    simp only [dTy, sub1, lenD, runs_pure, eq_int]
    simp only [beq_self_eq_true, Bool.true_or, if_true]
    match ds with
    | [] => simp [pairB]
    | [_] => simp [pairB]
    | [_, _] => simp [pairB]
    | _ :: _ :: _ :: r => simp only [pairB, List.length_cons]; rw [decide_eq_false (by omega)]
  | _ => simp [dTy, sub1, pairB]
def placeB (many : Int) : D → Bool
  | .int i => decide (0 ≤ i) && decide (i < many)
  | _ => false
theorem r_place {many : Int} {d : D} {S : Store} {Q : D → Store → Prop} (h : nr0 d) : runs (F_is_place [.int many, d]) S Q ↔ Q (.bl (placeB many d)) S := by
  unfold F_is_place m_is_place
  refine (runs_fn rfl).trans ?_
  simp only [List.map_cons, List.map_nil, List.replicate, List.cons_append, List.nil_append, runs_bind, rdV_0, rdV_1, rdV_2, rdV_3, runs_pure, r_whole h, runs_asB, runs_ite, outD]
  cases d with
  | int i =>
    simp only [wholeB, if_true, leD, int2, runs_pure, ltD, runs_asB, placeB]
    by_cases h0 : 0 ≤ i
    · simp [h0]
    · simp [h0]
  | _ => simp [wholeB, placeB]
def tieB (many : Int) : D → Bool
  | .tup [a, b] => placeB many a && (placeB many b && match a, b with | .int i, .int j => decide (i < j) | _, _ => false)
  | _ => false
def nr1 (d : D) : Prop := nr0 d ∧ ∀ ds, d = .tup ds → ∀ x ∈ ds, nr0 x
theorem place_int {many : Int} {d : D} (h : placeB many d = true) : ∃ i, d = .int i ∧ 0 ≤ i ∧ i < many := by
  cases d with
  | int i => exact ⟨i, rfl, by simpa [placeB] using h⟩
  | _ => cases h
theorem r_tie {many : Int} {d : D} {S : Store} {Q : D → Store → Prop} (h : nr1 d) : runs (F_is_tie [.int many, d]) S Q ↔ Q (.bl (tieB many d)) S := by
  unfold F_is_tie m_is_tie
  refine (runs_fn rfl).trans ?_
  simp only [Nat.zero_add,Nat.reduceAdd,Nat.reduceSub,mComp,sFor,runs_bind,runs_pure,runs_ite,runs_asB,runs_asI,runs_newL,runs_getL,runs_setL,runs_mkTup,runs_fail,List.map_cons,List.map_nil,List.replicate,List.cons_append,List.nil_append,List.set_cons_succ,List.set_cons_zero,outD,seqO,mV,mK,mAnd,mOr,mNot,mIf,aNil,aCons,mTup,mLst,aConsD,mCall,mB1,mOp,mChain,oN,oS,mSl,mRev,mIsi,mIsi2,mMt,bV,bOp,bChain,bChain3,bNot,bAnd,bOr,bTrue,iR1,iR2,iSeq,iZip,gN,gIt,sNil,sCons,sEx,sRet,sIf,sSet,sAsg,sPar,sWhile,gTupD,gsCons,gsNil,List.length_cons,List.length_nil,Bool.not_true,Bool.not_false,Bool.false_eq_true,if_true,if_false,Bool.true_eq_false,rdV_0,rdV_1,rdV_2,rdV_3,rdV_4,rdV_5,rdV_6,rdV_7,rdV_8, r_pair h.1]
  by_cases hp : pairB d = true
  · obtain ⟨a, b, rfl⟩ : ∃ a b, d = .tup [a, b] := by
      unfold pairB at hp
      split at hp
      · exact ⟨_, _, rfl⟩
      · cases hp
    have ha : nr0 a := h.2 _ rfl a (by simp)
    have hb : nr0 b := h.2 _ rfl b (by simp)
    simp only [hp, Nat.zero_add,Nat.reduceAdd,Nat.reduceSub,mComp,sFor,runs_bind,runs_pure,runs_ite,runs_asB,runs_asI,runs_newL,runs_getL,runs_setL,runs_mkTup,runs_fail,List.map_cons,List.map_nil,List.replicate,List.cons_append,List.nil_append,List.set_cons_succ,List.set_cons_zero,outD,seqO,mV,mK,mAnd,mOr,mNot,mIf,aNil,aCons,mTup,mLst,aConsD,mCall,mB1,mOp,mChain,oN,oS,mSl,mRev,mIsi,mIsi2,mMt,bV,bOp,bChain,bChain3,bNot,bAnd,bOr,bTrue,iR1,iR2,iSeq,iZip,gN,gIt,sNil,sCons,sEx,sRet,sIf,sSet,sAsg,sPar,sWhile,gTupD,gsCons,gsNil,List.length_cons,List.length_nil,Bool.not_true,Bool.not_false,Bool.false_eq_true,if_true,if_false,Bool.true_eq_false,rdV_0,rdV_1,rdV_2,rdV_3,rdV_4,rdV_5,rdV_6,rdV_7,rdV_8, r_place ha, r_place hb, tieB]
    by_cases h1 : placeB many a = true
    · obtain ⟨i, rfl, _, _⟩ := place_int h1
      by_cases h2 : placeB many b = true
      · obtain ⟨j, rfl, _, _⟩ := place_int h2
        simp [h1, h2, ltD, runs_pure]
      · simp [h1, h2, runs_pure]
    · simp [h1, runs_pure]
  · have : tieB many d = false := by
      unfold tieB
      split
      · simp [pairB] at hp
      · rfl
    simp [hp, this, runs_pure, runs_bind, seqO, outD]
theorem runs_comp_map {it : Iter} {g : TMG} {t : TMB} {m : TM} {ρ : Env0} {S : Store} {Q : List D → Store → Prop} (R : Env0 → Prop) (f : D → D) (hl : it.items.length ≤ lim) (hc : it.chk = none) (hR : R ρ)
    (hturn : ∀ d ∈ it.items, ∀ ρ, R ρ → runs (g d ρ) S (fun ρ1 S1 => S1 = S ∧ R ρ1 ∧ runs (t ρ1) S (fun k S2 => k = true ∧ S2 = S ∧ runs (m ρ1) S (fun y S3 => S3 = S ∧ y = f d)))) (hQ : Q (it.items.map f) S) : runs (compAll it g t m ρ) S Q := by
  obtain ⟨items, chk⟩ := it
  simp only at hl hc hturn hQ
  subst hc
  refine runs_compAll hl (fun ds ρ ys S' => S' = S ∧ R ρ ∧ ∃ pre, items = pre ++ ds ∧ ys = pre.map f) (fun _ _ _ _ _ => trivial) ?_ ⟨rfl, hR, [], rfl, rfl⟩ ?_
  · rintro d ds ρ ys S' ⟨rfl, hr, pre, e, rfl⟩
    refine runs_mono (hturn d (by rw [e]; simp) ρ hr) fun ρ1 S1 ⟨e1, r1, h1⟩ => ?_
    subst e1
    refine runs_mono h1 fun k S2 ⟨ek, e2, h2⟩ => ?_
    subst ek e2
    rw [if_pos rfl]
    refine runs_mono h2 fun y S3 ⟨e3, ey⟩ => ?_
    subst e3 ey
    exact ⟨rfl, r1, pre ++ [d], by rw [e]; simp, by simp⟩
  · rintro ρ' zs S' ⟨rfl, _, pre, e, rfl⟩
    rw [List.append_nil] at e
    subst e
    exact hQ
theorem boolsOf_map (l : List Bool) : boolsOf (l.map D.bl) = some l := by
  induction l with
  | nil => rfl
  | cons b l ih => simp [boolsOf, ih]
theorem get_last {S : Store} {xs : List D} : (S ++ [xs])[S.length]? = some xs := by simp
theorem runs_allL {S : Store} {l : List Bool} {Q : D → Store → Prop} : runs (allD [.lst S.length]) (S ++ [l.map D.bl]) Q ↔ Q (.bl (l.all id)) (S ++ [l.map D.bl]) := by
  unfold allD
  rw [runs_bind, runs_getL]
  simp only [get_last, Option.some.injEq, exists_eq_left', boolsOf_map, runs_pure]
def rowB : D → D → Bool
  | .tup xs, .tup ys => match intsOf xs, intsOf ys with
    | some a, some b => HT.lexLt a b
    | _, _ => false
  | _, _ => false
def risB : List D → Bool
  | a :: b :: r => rowB a b && risB (b :: r)
  | _ => true
def isRow (d : D) : Prop := ∃ ds ns, d = .tup ds ∧ intsOf ds = some ns
theorem row_lt {a b : D} {S : Store} {Q : D → Store → Prop} (ha : isRow a) (hb : isRow b) : runs (ltD a b) S Q ↔ Q (.bl (rowB a b)) S := by
  obtain ⟨xs, ns, rfl, e1⟩ := ha
  obtain ⟨ys, ms, rfl, e2⟩ := hb
  simp only [ltD, e1, e2, runs_pure, rowB]
theorem ris_zip : ∀ l : List D, ((l.zip (l.drop 1)).map fun p => rowB p.1 p.2).all id = risB l
  | [] => rfl
  | [_] => rfl
  | a :: b :: r => by
    have := ris_zip (b :: r)
    simp only [List.drop_succ_cons, List.drop_zero, List.zip_cons_cons, List.map_cons, List.all_cons, id] at this ⊢
    rw [risB, ← this]
theorem cut1 (l : List D) : S3.cutD l (some 1) none = l.drop 1 := by
  unfold S3.cutD HT.sIx
  cases l with
  | nil => rfl
  | cons a r => simp
theorem r_rising {ts : List D} {S : Store} {Q : D → Store → Prop} (h : ∀ t ∈ ts, isRow t) (hl : ts.length ≤ 1000) (hQ : ∀ G, Q (.bl (risB ts)) (S ++ G)) : runs (F_is_rising [.tup ts]) S Q := by
  unfold F_is_rising m_is_rising
  refine (runs_fn rfl).mpr ?_
  have hlim : ts.length ≤ lim := by unfold lim; omega
  have hcut : (S3.cutD ts (some 1) none).length ≤ lim := by rw [cut1, List.length_drop]; omega
  simp only [Nat.zero_add,Nat.reduceAdd,Nat.reduceSub,mComp,sFor,runs_bind,runs_pure,runs_ite,runs_asB,runs_asI,runs_newL,runs_getL,runs_setL,runs_mkTup,runs_fail,List.map_cons,List.map_nil,List.replicate,List.cons_append,List.nil_append,List.set_cons_succ,List.set_cons_zero,outD,seqO,mV,mK,mAnd,mOr,mNot,mIf,aNil,aCons,mTup,mLst,aConsD,mCall,mB1,mOp,mChain,oN,oS,mSl,mRev,mIsi,mIsi2,mMt,bV,bOp,bChain,bChain3,bNot,bAnd,bOr,bTrue,iR1,iR2,iSeq,iZip,gN,gIt,sNil,sCons,sEx,sRet,sIf,sSet,sAsg,sPar,sWhile,gTupD,gsCons,gsNil,List.length_cons,List.length_nil,Bool.not_true,Bool.not_false,Bool.false_eq_true,if_true,if_false,Bool.true_eq_false,rdV_0,rdV_1,rdV_2,rdV_3,rdV_4,rdV_5,rdV_6,rdV_7,rdV_8, sliceD, hcut, true_and, zipI, cut1]
  refine ⟨by rw [List.length_drop]; omega, ?_⟩
  refine runs_comp_map (fun ρ => ρ.length = 2) (fun d => match d with | .tup [a, b] => .bl (rowB a b) | _ => .non) ?_ rfl (by rfl) ?_ ?_
  · simp; omega
  · intro d hd ρ hρ
    simp only [List.mem_map] at hd
    obtain ⟨⟨a, b⟩, hp, rfl⟩ := hd
    obtain ⟨x, y, rfl⟩ : ∃ x y, ρ = [x, y] := by
      match ρ, hρ with
      | [x, y], _ => exact ⟨x, y, rfl⟩
    have ha := h a (List.of_mem_zip hp).1
    have hb := h b (List.mem_of_mem_drop (List.of_mem_zip hp).2)
    unfold m_is_rising_t1 m_is_rising_e2
    simp only [Nat.zero_add,Nat.reduceAdd,Nat.reduceSub,mComp,sFor,runs_bind,runs_pure,runs_ite,runs_asB,runs_asI,runs_newL,runs_getL,runs_setL,runs_mkTup,runs_fail,List.map_cons,List.map_nil,List.replicate,List.cons_append,List.nil_append,List.set_cons_succ,List.set_cons_zero,outD,seqO,mV,mK,mAnd,mOr,mNot,mIf,aNil,aCons,mTup,mLst,aConsD,mCall,mB1,mOp,mChain,oN,oS,mSl,mRev,mIsi,mIsi2,mMt,bV,bOp,bChain,bChain3,bNot,bAnd,bOr,bTrue,iR1,iR2,iSeq,iZip,gN,gIt,sNil,sCons,sEx,sRet,sIf,sSet,sAsg,sPar,sWhile,gTupD,gsCons,gsNil,List.length_cons,List.length_nil,Bool.not_true,Bool.not_false,Bool.false_eq_true,if_true,if_false,Bool.true_eq_false,rdV_0,rdV_1,rdV_2,rdV_3,rdV_4,rdV_5,rdV_6,rdV_7,rdV_8, row_lt ha hb, and_self]
  · have e : List.map (fun d => match d with | D.tup [a, b] => D.bl (rowB a b) | _ => D.non) (List.map (fun p : D × D => D.tup [p.1, p.2]) (ts.zip (ts.drop 1))) = ((ts.zip (ts.drop 1)).map fun p => rowB p.1 p.2).map D.bl := by
      rw [List.map_map, List.map_map]; rfl
    rw [e]
    have h3 : (((ts.zip (ts.drop 1)).map fun p => rowB p.1 p.2).map D.bl).length ≤ lim := by simp; omega
    simp only [Nat.zero_add,Nat.reduceAdd,Nat.reduceSub,mComp,sFor,runs_bind,runs_pure,runs_ite,runs_asB,runs_asI,runs_newL,runs_getL,runs_setL,runs_mkTup,runs_fail,List.map_cons,List.map_nil,List.replicate,List.cons_append,List.nil_append,List.set_cons_succ,List.set_cons_zero,outD,seqO,mV,mK,mAnd,mOr,mNot,mIf,aNil,aCons,mTup,mLst,aConsD,mCall,mB1,mOp,mChain,oN,oS,mSl,mRev,mIsi,mIsi2,mMt,bV,bOp,bChain,bChain3,bNot,bAnd,bOr,bTrue,iR1,iR2,iSeq,iZip,gN,gIt,sNil,sCons,sEx,sRet,sIf,sSet,sAsg,sPar,sWhile,gTupD,gsCons,gsNil,List.length_cons,List.length_nil,Bool.not_true,Bool.not_false,Bool.false_eq_true,if_true,if_false,Bool.true_eq_false,rdV_0,rdV_1,rdV_2,rdV_3,rdV_4,rdV_5,rdV_6,rdV_7,rdV_8, h3, true_and, runs_allL, ris_zip]
    exact hQ _
def nr3 (d : D) : Prop := nr0 d ∧ ∀ ds, d = .tup ds → ∀ x ∈ ds, nr0 x ∧ ∀ ts, x = .tup ts → ∀ t ∈ ts, nr1 t
def webB : D → Bool
  | .tup [.int many, .tup ties] => decide (0 ≤ many) && (decide (many ≤ 14) && (ties.all (tieB many) && risB ties))
  | _ => false
theorem tie_row {many : Int} {d : D} (h : tieB many d = true) : ∃ i j, d = .tup [.int i, .int j] ∧ 0 ≤ i ∧ i < j ∧ j < many := by
  unfold tieB at h
  split at h
  · next a b =>
    simp only [Bool.and_eq_true] at h
    obtain ⟨h1, h2, h3⟩ := h
    obtain ⟨i, rfl, i1, i2⟩ := place_int h1
    obtain ⟨j, rfl, j1, j2⟩ := place_int h2
    simp only [decide_eq_true_eq] at h3
    exact ⟨i, j, rfl, i1, h3, j2⟩
  · cases h
theorem isRow_tie {many : Int} {d : D} (h : tieB many d = true) : isRow d := by
  obtain ⟨i, j, rfl, _⟩ := tie_row h
  exact ⟨_, [i, j], rfl, rfl⟩
theorem r_web {d : D} {S : Store} {Q : D → Store → Prop} (h : nr3 d) (hlen : ∀ m ts, d = .tup [m, .tup ts] → ts.length ≤ 1000) (hQ : ∀ G, Q (.bl (webB d)) (S ++ G)) : runs (F_is_web [d]) S Q := by
  unfold F_is_web m_is_web
  refine (runs_fn rfl).mpr ?_
  have q0 : webB d = false → Q (.bl false) S := fun e => by
    have := hQ []
    rw [e, List.append_nil] at this; exact this
  by_cases hp : pairB d = true
  · obtain ⟨a, t, rfl⟩ : ∃ a b, d = .tup [a, b] := by
      unfold pairB at hp
      split at hp
      · exact ⟨_, _, rfl⟩
      · cases hp
    obtain ⟨ha, _⟩ := h.2 _ rfl a (by simp)
    obtain ⟨ht, htt⟩ := h.2 _ rfl t (by simp)
    cases a with
    | int many =>
      by_cases h0 : 0 ≤ many
      · by_cases h14 : many ≤ 14
        · cases t with
          | tup ts =>
            have hts := hlen _ ts rfl
            simp only [Nat.zero_add,Nat.reduceAdd,Nat.reduceSub,mComp,sFor,runs_bind,runs_pure,runs_ite,runs_asB,runs_asI,runs_newL,runs_getL,runs_setL,runs_mkTup,runs_fail,List.map_cons,List.map_nil,List.replicate,List.cons_append,List.nil_append,List.set_cons_succ,List.set_cons_zero,outD,seqO,mV,mK,mAnd,mOr,mNot,mIf,aNil,aCons,mTup,mLst,aConsD,mCall,mB1,mOp,mChain,oN,oS,mSl,mRev,mIsi,mIsi2,mMt,bV,bOp,bChain,bChain3,bNot,bAnd,bOr,bTrue,iR1,iR2,iSeq,iZip,gN,gIt,sNil,sCons,sEx,sRet,sIf,sSet,sAsg,sPar,sWhile,gTupD,gsCons,gsNil,List.length_cons,List.length_nil,Bool.not_true,Bool.not_false,Bool.false_eq_true,if_true,if_false,Bool.true_eq_false,rdV_0,rdV_1,rdV_2,rdV_3,rdV_4,rdV_5,rdV_6,rdV_7,rdV_8, r_pair h.1, r_whole ha, runs_isi ht, hp, wholeB, leD, int2, h0, h14, decide_true, decide_false, dTy, sub1, beq_self_eq_true, Bool.true_or, seqI]
            refine runs_comp_map (fun ρ => ∃ x, ρ = [x, some (.int many)]) (fun d => .bl (tieB many d)) (by simp only; unfold lim; omega) rfl ⟨none, rfl⟩ ?_ ?_
            · rintro d hd ρ ⟨x, rfl⟩
              unfold m_is_web_t1 m_is_web_e2
              simp only [Nat.zero_add,Nat.reduceAdd,Nat.reduceSub,mComp,sFor,runs_bind,runs_pure,runs_ite,runs_asB,runs_asI,runs_newL,runs_getL,runs_setL,runs_mkTup,runs_fail,List.map_cons,List.map_nil,List.replicate,List.cons_append,List.nil_append,List.set_cons_succ,List.set_cons_zero,outD,seqO,mV,mK,mAnd,mOr,mNot,mIf,aNil,aCons,mTup,mLst,aConsD,mCall,mB1,mOp,mChain,oN,oS,mSl,mRev,mIsi,mIsi2,mMt,bV,bOp,bChain,bChain3,bNot,bAnd,bOr,bTrue,iR1,iR2,iSeq,iZip,gN,gIt,sNil,sCons,sEx,sRet,sIf,sSet,sAsg,sPar,sWhile,gTupD,gsCons,gsNil,List.length_cons,List.length_nil,Bool.not_true,Bool.not_false,Bool.false_eq_true,if_true,if_false,Bool.true_eq_false,rdV_0,rdV_1,rdV_2,rdV_3,rdV_4,rdV_5,rdV_6,rdV_7,rdV_8, r_tie (htt _ rfl d hd), and_self, true_and]
              first | exact ⟨_, rfl⟩ | exact ⟨⟨_, rfl⟩, trivial⟩
            · have e : ts.map (fun d => D.bl (tieB many d)) = (ts.map (tieB many)).map D.bl := by rw [List.map_map]; rfl
              rw [e]
              have hl : ((ts.map (tieB many)).map D.bl).length ≤ lim := by simp; unfold lim; omega
              simp only [Nat.zero_add,Nat.reduceAdd,Nat.reduceSub,mComp,sFor,runs_bind,runs_pure,runs_ite,runs_asB,runs_asI,runs_newL,runs_getL,runs_setL,runs_mkTup,runs_fail,List.map_cons,List.map_nil,List.replicate,List.cons_append,List.nil_append,List.set_cons_succ,List.set_cons_zero,outD,seqO,mV,mK,mAnd,mOr,mNot,mIf,aNil,aCons,mTup,mLst,aConsD,mCall,mB1,mOp,mChain,oN,oS,mSl,mRev,mIsi,mIsi2,mMt,bV,bOp,bChain,bChain3,bNot,bAnd,bOr,bTrue,iR1,iR2,iSeq,iZip,gN,gIt,sNil,sCons,sEx,sRet,sIf,sSet,sAsg,sPar,sWhile,gTupD,gsCons,gsNil,List.length_cons,List.length_nil,Bool.not_true,Bool.not_false,Bool.false_eq_true,if_true,if_false,Bool.true_eq_false,rdV_0,rdV_1,rdV_2,rdV_3,rdV_4,rdV_5,rdV_6,rdV_7,rdV_8, hl, true_and, runs_allL]
              have eall : (ts.map (tieB many)).all id = ts.all (tieB many) := by rw [List.all_map]; rfl
              rw [eall]
              by_cases hall : ts.all (tieB many) = true
              · rw [if_pos hall]
                refine r_rising (fun t ht => isRow_tie (List.all_eq_true.mp hall t ht)) hts fun G => ?_
                have := hQ ([List.map D.bl (List.map (tieB many) ts)] ++ G)
                simp only [webB, h0, h14, hall, decide_true, Bool.true_and] at this
                rw [List.append_assoc]; exact this
              · rw [if_neg hall]
                have := hQ [List.map D.bl (List.map (tieB many) ts)]
                simp only [webB, h0, h14, hall, decide_true, Bool.true_and, Bool.false_and] at this
                exact this
          | ro ts => exact absurd rfl (ht ts)
          | _ =>
            simp only [Nat.zero_add,Nat.reduceAdd,Nat.reduceSub,mComp,sFor,runs_bind,runs_pure,runs_ite,runs_asB,runs_asI,runs_newL,runs_getL,runs_setL,runs_mkTup,runs_fail,List.map_cons,List.map_nil,List.replicate,List.cons_append,List.nil_append,List.set_cons_succ,List.set_cons_zero,outD,seqO,mV,mK,mAnd,mOr,mNot,mIf,aNil,aCons,mTup,mLst,aConsD,mCall,mB1,mOp,mChain,oN,oS,mSl,mRev,mIsi,mIsi2,mMt,bV,bOp,bChain,bChain3,bNot,bAnd,bOr,bTrue,iR1,iR2,iSeq,iZip,gN,gIt,sNil,sCons,sEx,sRet,sIf,sSet,sAsg,sPar,sWhile,gTupD,gsCons,gsNil,List.length_cons,List.length_nil,Bool.not_true,Bool.not_false,Bool.false_eq_true,if_true,if_false,Bool.true_eq_false,rdV_0,rdV_1,rdV_2,rdV_3,rdV_4,rdV_5,rdV_6,rdV_7,rdV_8, r_pair h.1, r_whole ha, runs_isi ht, hp, wholeB, leD, int2, h0, h14, decide_true, decide_false, dTy, sub1]
            simp [runs_pure, runs_bind]
            exact q0 rfl
        · have : webB (.tup [.int many, t]) = false := by
            unfold webB
            split
            · next e => injection e with e; injection e with e _; injection e with e; subst e; simp [h14]
            · rfl
          simp only [Nat.zero_add,Nat.reduceAdd,Nat.reduceSub,mComp,sFor,runs_bind,runs_pure,runs_ite,runs_asB,runs_asI,runs_newL,runs_getL,runs_setL,runs_mkTup,runs_fail,List.map_cons,List.map_nil,List.replicate,List.cons_append,List.nil_append,List.set_cons_succ,List.set_cons_zero,outD,seqO,mV,mK,mAnd,mOr,mNot,mIf,aNil,aCons,mTup,mLst,aConsD,mCall,mB1,mOp,mChain,oN,oS,mSl,mRev,mIsi,mIsi2,mMt,bV,bOp,bChain,bChain3,bNot,bAnd,bOr,bTrue,iR1,iR2,iSeq,iZip,gN,gIt,sNil,sCons,sEx,sRet,sIf,sSet,sAsg,sPar,sWhile,gTupD,gsCons,gsNil,List.length_cons,List.length_nil,Bool.not_true,Bool.not_false,Bool.false_eq_true,if_true,if_false,Bool.true_eq_false,rdV_0,rdV_1,rdV_2,rdV_3,rdV_4,rdV_5,rdV_6,rdV_7,rdV_8, r_pair h.1, r_whole ha, hp, wholeB, leD, int2, h0, h14, decide_true, decide_false]
          exact q0 this
      · have : webB (.tup [.int many, t]) = false := by
          unfold webB
          split
          · next e => injection e with e; injection e with e _; injection e with e; subst e; simp [h0]
          · rfl
        simp only [Nat.zero_add,Nat.reduceAdd,Nat.reduceSub,mComp,sFor,runs_bind,runs_pure,runs_ite,runs_asB,runs_asI,runs_newL,runs_getL,runs_setL,runs_mkTup,runs_fail,List.map_cons,List.map_nil,List.replicate,List.cons_append,List.nil_append,List.set_cons_succ,List.set_cons_zero,outD,seqO,mV,mK,mAnd,mOr,mNot,mIf,aNil,aCons,mTup,mLst,aConsD,mCall,mB1,mOp,mChain,oN,oS,mSl,mRev,mIsi,mIsi2,mMt,bV,bOp,bChain,bChain3,bNot,bAnd,bOr,bTrue,iR1,iR2,iSeq,iZip,gN,gIt,sNil,sCons,sEx,sRet,sIf,sSet,sAsg,sPar,sWhile,gTupD,gsCons,gsNil,List.length_cons,List.length_nil,Bool.not_true,Bool.not_false,Bool.false_eq_true,if_true,if_false,Bool.true_eq_false,rdV_0,rdV_1,rdV_2,rdV_3,rdV_4,rdV_5,rdV_6,rdV_7,rdV_8, r_pair h.1, r_whole ha, hp, wholeB, leD, int2, h0, decide_true, decide_false]
        exact q0 this
    | _ =>
      simp only [Nat.zero_add,Nat.reduceAdd,Nat.reduceSub,mComp,sFor,runs_bind,runs_pure,runs_ite,runs_asB,runs_asI,runs_newL,runs_getL,runs_setL,runs_mkTup,runs_fail,List.map_cons,List.map_nil,List.replicate,List.cons_append,List.nil_append,List.set_cons_succ,List.set_cons_zero,outD,seqO,mV,mK,mAnd,mOr,mNot,mIf,aNil,aCons,mTup,mLst,aConsD,mCall,mB1,mOp,mChain,oN,oS,mSl,mRev,mIsi,mIsi2,mMt,bV,bOp,bChain,bChain3,bNot,bAnd,bOr,bTrue,iR1,iR2,iSeq,iZip,gN,gIt,sNil,sCons,sEx,sRet,sIf,sSet,sAsg,sPar,sWhile,gTupD,gsCons,gsNil,List.length_cons,List.length_nil,Bool.not_true,Bool.not_false,Bool.false_eq_true,if_true,if_false,Bool.true_eq_false,rdV_0,rdV_1,rdV_2,rdV_3,rdV_4,rdV_5,rdV_6,rdV_7,rdV_8, r_pair h.1, r_whole ha, hp, wholeB]
      exact q0 rfl
  · have : webB d = false := by
      unfold webB
      split
      · simp [pairB] at hp
      · rfl
    have hp' : pairB d = false := by simpa using hp
    simp only [Nat.zero_add,Nat.reduceAdd,Nat.reduceSub,mComp,sFor,runs_bind,runs_pure,runs_ite,runs_asB,runs_asI,runs_newL,runs_getL,runs_setL,runs_mkTup,runs_fail,List.map_cons,List.map_nil,List.replicate,List.cons_append,List.nil_append,List.set_cons_succ,List.set_cons_zero,outD,seqO,mV,mK,mAnd,mOr,mNot,mIf,aNil,aCons,mTup,mLst,aConsD,mCall,mB1,mOp,mChain,oN,oS,mSl,mRev,mIsi,mIsi2,mMt,bV,bOp,bChain,bChain3,bNot,bAnd,bOr,bTrue,iR1,iR2,iSeq,iZip,gN,gIt,sNil,sCons,sEx,sRet,sIf,sSet,sAsg,sPar,sWhile,gTupD,gsCons,gsNil,List.length_cons,List.length_nil,Bool.not_true,Bool.not_false,Bool.false_eq_true,if_true,if_false,Bool.true_eq_false,rdV_0,rdV_1,rdV_2,rdV_3,rdV_4,rdV_5,rdV_6,rdV_7,rdV_8, r_pair h.1, hp']
    exact q0 this
end W
end
section
set_option maxRecDepth 100000
set_option maxHeartbeats 4000000
namespace W
open PySem PySem.Spec PyProof.Rows L2 S3 S4
def StAt (S : Store) (k : Nat) : Prop := ∃ st b, S[k]? = some [.int st, .bl b] ∧ 0 ≤ st ∧ (b = false → st < 2147483647)
theorem at0 {a b : D} : atI [a, b] 0 = some a := rfl
theorem at1 {a b : D} : atI [a, b] 1 = some b := rfl
theorem ix0 : ixN 2 0 = some 0 := rfl
theorem StAt.lt {S : Store} {k : Nat} (h : StAt S k) : k < S.length := let ⟨_, _, e, _⟩ := h; (List.getElem?_eq_some_iff.mp e).1
theorem lim2 : 2 ≤ lim := by unfold lim; omega
theorem r_take {S : Store} {k : Nat} {many : Int} {Q : D → Store → Prop} (hs : StAt S k) (h0 : 0 < many) (h1 : many < 1073741824)
    (hQ : ∀ j S', 0 ≤ j → j < many → S'.length = S.length → (∀ i, i ≠ k → S'[i]? = S[i]?) → StAt S' k → Q (.int j) S') : runs (F__law_take [.lst k, .int many]) S Q := by
  have hk := hs.lt
  obtain ⟨st, b, e, p1, p2⟩ := hs
  unfold F__law_take m__law_take
  refine (runs_fn rfl).mpr ?_
  have set1 : ∀ ys : List D, (S.set k ys)[k]? = some ys := fun ys => List.getElem?_set_self hk
  have oth : ∀ (ys : List D) i, i ≠ k → (S.set k ys)[i]? = S[i]? := fun ys i hi => List.getElem?_set_ne (Ne.symm hi)
  cases b with
  | true =>
    have cd : CDiv st many := ⟨h0, h1⟩
    simp only [Nat.zero_add,Nat.reduceAdd,Nat.reduceSub,mComp,sFor,runs_bind,runs_pure,runs_ite,runs_asB,runs_asI,runs_newL,runs_getL,runs_setL,runs_mkTup,runs_fail,List.map_cons,List.map_nil,List.replicate,List.cons_append,List.nil_append,List.set_cons_succ,List.set_cons_zero,outD,seqO,mV,mK,mAnd,mOr,mNot,mIf,aNil,aCons,mTup,mLst,aConsD,mCall,mB1,mOp,mChain,oN,oS,mSl,mRev,mIsi,mIsi2,mMt,bV,bOp,bChain,bChain3,bNot,bAnd,bOr,bTrue,iR1,iR2,iSeq,iZip,gN,gIt,sNil,sCons,sEx,sRet,sIf,sSet,sAsg,sPar,sWhile,gTupD,gsCons,gsNil,List.length_cons,List.length_nil,Bool.not_true,Bool.not_false,Bool.false_eq_true,if_true,if_false,Bool.true_eq_false,rdV_0,rdV_1,rdV_2,rdV_3,rdV_4,rdV_5,rdV_6,rdV_7,rdV_8, ixD, e, Option.some.injEq, exists_eq_left', at0, at1, modD, fdivD, int2, h0, cd, setItemD, ix0, hk, lim2, true_and, and_self]
    refine hQ _ _ (Int.emod_nonneg _ (by omega)) (Int.emod_lt_of_pos _ h0) (by simp) (oth _) ⟨_, true, set1 _, Int.ediv_nonneg p1 (by omega), fun z => by cases z⟩
  | false =>
    have p3 := p2 rfl
    have c1 : CMul st 48271 := .inr ⟨by decide, by decide⟩
    have q1 : (0 : Int) < 2147483647 := by decide
    have q2 : (0 : Int) < 2147483629 := by decide
    have q3 : (0 : Int) < 2147483587 := by decide
    have c2 : CDiv = fun i j => 0 < j ∧ j < 1073741824 := rfl
    simp only [Nat.zero_add,Nat.reduceAdd,Nat.reduceSub,mComp,sFor,runs_bind,runs_pure,runs_ite,runs_asB,runs_asI,runs_newL,runs_getL,runs_setL,runs_mkTup,runs_fail,List.map_cons,List.map_nil,List.replicate,List.cons_append,List.nil_append,List.set_cons_succ,List.set_cons_zero,outD,seqO,mV,mK,mAnd,mOr,mNot,mIf,aNil,aCons,mTup,mLst,aConsD,mCall,mB1,mOp,mChain,oN,oS,mSl,mRev,mIsi,mIsi2,mMt,bV,bOp,bChain,bChain3,bNot,bAnd,bOr,bTrue,iR1,iR2,iSeq,iZip,gN,gIt,sNil,sCons,sEx,sRet,sIf,sSet,sAsg,sPar,sWhile,gTupD,gsCons,gsNil,List.length_cons,List.length_nil,Bool.not_true,Bool.not_false,Bool.false_eq_true,if_true,if_false,Bool.true_eq_false,rdV_0,rdV_1,rdV_2,rdV_3,rdV_4,rdV_5,rdV_6,rdV_7,rdV_8, ixD, e, Option.some.injEq, exists_eq_left', at0, at1, modD, mulD, addD, int2, c1, q1, setItemD, ix0, hk, lim2, true_and, and_self, set1]
    generalize hst : (st * 48271 + 29) % 2147483647 = st'
    have s1 : 0 ≤ st' := by rw [← hst]; exact Int.emod_nonneg _ (by decide)
    have s2 : st' < 2147483647 := by rw [← hst]; exact Int.emod_lt_of_pos _ (by decide)
    have c3 : CMul st' st' := .inl ⟨by omega, by omega⟩
    have c4 : CMul 39373 st' := .inl ⟨by decide, by decide⟩
    simp only [c3, c4, q2, q3, if_true, runs_pure]
    generalize hx : (st' * st' + 39373 * st' + 7) % 2147483629 = x
    have x1 : 0 ≤ x := by rw [← hx]; exact Int.emod_nonneg _ (by decide)
    have x2 : x < 2147483629 := by rw [← hx]; exact Int.emod_lt_of_pos _ (by decide)
    have c5 : CMul x x := .inl ⟨by omega, by omega⟩
    have c6 : CMul 16807 x := .inl ⟨by decide, by decide⟩
    simp only [c5, c6, q3, if_true, runs_pure, fdivD, int2]
    generalize hy : (x * x + 16807 * x) % 2147483587 = y
    have c7 : CDiv y 8 := ⟨by decide, by decide⟩
    simp only [c7, h0, if_true, runs_pure]
    refine hQ _ _ (Int.emod_nonneg _ (by omega)) (Int.emod_lt_of_pos _ h0) (by simp) (oth _) ⟨_, false, set1 _, s1, fun _ => s2⟩
theorem r_cell {S : Store} {ns : List Int} {k : Nat} {Q : D → Store → Prop} (hQ : ∀ i, Q (.int i) S) : runs (F__law_cell_at [.ro (ns.map D.int), .int k]) S Q := by
  unfold F__law_cell_at m__law_cell_at
  refine (runs_fn rfl).mpr ?_
  simp only [Nat.zero_add,Nat.reduceAdd,Nat.reduceSub,mComp,sFor,runs_bind,runs_pure,runs_ite,runs_asB,runs_asI,runs_newL,runs_getL,runs_setL,runs_mkTup,runs_fail,List.map_cons,List.map_nil,List.replicate,List.cons_append,List.nil_append,List.set_cons_succ,List.set_cons_zero,outD,seqO,mV,mK,mAnd,mOr,mNot,mIf,aNil,aCons,mTup,mLst,aConsD,mCall,mB1,mOp,mChain,oN,oS,mSl,mRev,mIsi,mIsi2,mMt,bV,bOp,bChain,bChain3,bNot,bAnd,bOr,bTrue,iR1,iR2,iSeq,iZip,gN,gIt,sNil,sCons,sEx,sRet,sIf,sSet,sAsg,sPar,sWhile,gTupD,gsCons,gsNil,List.length_cons,List.length_nil,Bool.not_true,Bool.not_false,Bool.false_eq_true,if_true,if_false,Bool.true_eq_false,rdV_0,rdV_1,rdV_2,rdV_3,rdV_4,rdV_5,rdV_6,rdV_7,rdV_8, lenD, ltD]
  by_cases h : (k : Int) < ((ns.map D.int).length : Nat)
  · have hk : k < ns.length := by simpa using h
    have e : atI (ns.map D.int) (k : Int) = some (.int ns[k]) := by
      unfold atI ixN
      simp [hk]
    simp only [h, decide_true, if_true, ixD, e, Nat.zero_add,Nat.reduceAdd,Nat.reduceSub,mComp,sFor,runs_bind,runs_pure,runs_ite,runs_asB,runs_asI,runs_newL,runs_getL,runs_setL,runs_mkTup,runs_fail,List.map_cons,List.map_nil,List.replicate,List.cons_append,List.nil_append,List.set_cons_succ,List.set_cons_zero,outD,seqO,mV,mK,mAnd,mOr,mNot,mIf,aNil,aCons,mTup,mLst,aConsD,mCall,mB1,mOp,mChain,oN,oS,mSl,mRev,mIsi,mIsi2,mMt,bV,bOp,bChain,bChain3,bNot,bAnd,bOr,bTrue,iR1,iR2,iSeq,iZip,gN,gIt,sNil,sCons,sEx,sRet,sIf,sSet,sAsg,sPar,sWhile,gTupD,gsCons,gsNil,List.length_cons,List.length_nil,Bool.not_true,Bool.not_false,Bool.false_eq_true,if_true,if_false,Bool.true_eq_false,rdV_0,rdV_1,rdV_2,rdV_3,rdV_4,rdV_5,rdV_6,rdV_7,rdV_8]
    exact hQ _
  · simp only [h, decide_false, Bool.false_eq_true, if_false, Nat.zero_add,Nat.reduceAdd,Nat.reduceSub,mComp,sFor,runs_bind,runs_pure,runs_ite,runs_asB,runs_asI,runs_newL,runs_getL,runs_setL,runs_mkTup,runs_fail,List.map_cons,List.map_nil,List.replicate,List.cons_append,List.nil_append,List.set_cons_succ,List.set_cons_zero,outD,seqO,mV,mK,mAnd,mOr,mNot,mIf,aNil,aCons,mTup,mLst,aConsD,mCall,mB1,mOp,mChain,oN,oS,mSl,mRev,mIsi,mIsi2,mMt,bV,bOp,bChain,bChain3,bNot,bAnd,bOr,bTrue,iR1,iR2,iSeq,iZip,gN,gIt,sNil,sCons,sEx,sRet,sIf,sSet,sAsg,sPar,sWhile,gTupD,gsCons,gsNil,List.length_cons,List.length_nil,Bool.not_true,Bool.not_false,Bool.false_eq_true,if_true,if_false,Bool.true_eq_false,rdV_0,rdV_1,rdV_2,rdV_3,rdV_4,rdV_5,rdV_6,rdV_7,rdV_8]
    exact hQ _
theorem r_state {S : Store} {ns : List Int} {k : Nat} {Q : D → Store → Prop} (hQ : ∀ xs, StAt (S ++ [xs]) S.length → Q (.lst S.length) (S ++ [xs])) : runs (F__law_state [.ro (ns.map D.int), .int k]) S Q := by
  unfold F__law_state m__law_state
  refine (runs_fn rfl).mpr ?_
  simp only [Nat.zero_add,Nat.reduceAdd,Nat.reduceSub,mComp,sFor,runs_bind,runs_pure,runs_ite,runs_asB,runs_asI,runs_newL,runs_getL,runs_setL,runs_mkTup,runs_fail,List.map_cons,List.map_nil,List.replicate,List.cons_append,List.nil_append,List.set_cons_succ,List.set_cons_zero,outD,seqO,mV,mK,mAnd,mOr,mNot,mIf,aNil,aCons,mTup,mLst,aConsD,mCall,mB1,mOp,mChain,oN,oS,mSl,mRev,mIsi,mIsi2,mMt,bV,bOp,bChain,bChain3,bNot,bAnd,bOr,bTrue,iR1,iR2,iSeq,iZip,gN,gIt,sNil,sCons,sEx,sRet,sIf,sSet,sAsg,sPar,sWhile,gTupD,gsCons,gsNil,List.length_cons,List.length_nil,Bool.not_true,Bool.not_false,Bool.false_eq_true,if_true,if_false,Bool.true_eq_false,rdV_0,rdV_1,rdV_2,rdV_3,rdV_4,rdV_5,rdV_6,rdV_7,rdV_8]
  refine r_cell fun cell => ?_
  have cp : CPow 10 18 := ⟨by decide, by decide, by decide⟩
  have e18 : (10 : Int) ^ (18 : Int).toNat = 1000000000000000000 := by decide
  simp only [Nat.zero_add,Nat.reduceAdd,Nat.reduceSub,mComp,sFor,runs_bind,runs_pure,runs_ite,runs_asB,runs_asI,runs_newL,runs_getL,runs_setL,runs_mkTup,runs_fail,List.map_cons,List.map_nil,List.replicate,List.cons_append,List.nil_append,List.set_cons_succ,List.set_cons_zero,outD,seqO,mV,mK,mAnd,mOr,mNot,mIf,aNil,aCons,mTup,mLst,aConsD,mCall,mB1,mOp,mChain,oN,oS,mSl,mRev,mIsi,mIsi2,mMt,bV,bOp,bChain,bChain3,bNot,bAnd,bOr,bTrue,iR1,iR2,iSeq,iZip,gN,gIt,sNil,sCons,sEx,sRet,sIf,sSet,sAsg,sPar,sWhile,gTupD,gsCons,gsNil,List.length_cons,List.length_nil,Bool.not_true,Bool.not_false,Bool.false_eq_true,if_true,if_false,Bool.true_eq_false,rdV_0,rdV_1,rdV_2,rdV_3,rdV_4,rdV_5,rdV_6,rdV_7,rdV_8, powD, geD, subD, modD, int2, cp, e18, lim2, true_and]
  by_cases h : (1000000000000000000 : Int) ≤ cell
  · simp only [h, decide_true, Nat.zero_add,Nat.reduceAdd,Nat.reduceSub,mComp,sFor,runs_bind,runs_pure,runs_ite,runs_asB,runs_asI,runs_newL,runs_getL,runs_setL,runs_mkTup,runs_fail,List.map_cons,List.map_nil,List.replicate,List.cons_append,List.nil_append,List.set_cons_succ,List.set_cons_zero,outD,seqO,mV,mK,mAnd,mOr,mNot,mIf,aNil,aCons,mTup,mLst,aConsD,mCall,mB1,mOp,mChain,oN,oS,mSl,mRev,mIsi,mIsi2,mMt,bV,bOp,bChain,bChain3,bNot,bAnd,bOr,bTrue,iR1,iR2,iSeq,iZip,gN,gIt,sNil,sCons,sEx,sRet,sIf,sSet,sAsg,sPar,sWhile,gTupD,gsCons,gsNil,List.length_cons,List.length_nil,Bool.not_true,Bool.not_false,Bool.false_eq_true,if_true,if_false,Bool.true_eq_false,rdV_0,rdV_1,rdV_2,rdV_3,rdV_4,rdV_5,rdV_6,rdV_7,rdV_8, lim2, true_and]
    exact hQ _ ⟨_, true, get_last, by omega, fun z => by cases z⟩
  · simp only [h, decide_false, Nat.zero_add,Nat.reduceAdd,Nat.reduceSub,mComp,sFor,runs_bind,runs_pure,runs_ite,runs_asB,runs_asI,runs_newL,runs_getL,runs_setL,runs_mkTup,runs_fail,List.map_cons,List.map_nil,List.replicate,List.cons_append,List.nil_append,List.set_cons_succ,List.set_cons_zero,outD,seqO,mV,mK,mAnd,mOr,mNot,mIf,aNil,aCons,mTup,mLst,aConsD,mCall,mB1,mOp,mChain,oN,oS,mSl,mRev,mIsi,mIsi2,mMt,bV,bOp,bChain,bChain3,bNot,bAnd,bOr,bTrue,iR1,iR2,iSeq,iZip,gN,gIt,sNil,sCons,sEx,sRet,sIf,sSet,sAsg,sPar,sWhile,gTupD,gsCons,gsNil,List.length_cons,List.length_nil,Bool.not_true,Bool.not_false,Bool.false_eq_true,if_true,if_false,Bool.true_eq_false,rdV_0,rdV_1,rdV_2,rdV_3,rdV_4,rdV_5,rdV_6,rdV_7,rdV_8, lim2, true_and]
    have q1 : (0 : Int) < 2147483647 := by decide
    simp only [q1, Nat.zero_add,Nat.reduceAdd,Nat.reduceSub,mComp,sFor,runs_bind,runs_pure,runs_ite,runs_asB,runs_asI,runs_newL,runs_getL,runs_setL,runs_mkTup,runs_fail,List.map_cons,List.map_nil,List.replicate,List.cons_append,List.nil_append,List.set_cons_succ,List.set_cons_zero,outD,seqO,mV,mK,mAnd,mOr,mNot,mIf,aNil,aCons,mTup,mLst,aConsD,mCall,mB1,mOp,mChain,oN,oS,mSl,mRev,mIsi,mIsi2,mMt,bV,bOp,bChain,bChain3,bNot,bAnd,bOr,bTrue,iR1,iR2,iSeq,iZip,gN,gIt,sNil,sCons,sEx,sRet,sIf,sSet,sAsg,sPar,sWhile,gTupD,gsCons,gsNil,List.length_cons,List.length_nil,Bool.not_true,Bool.not_false,Bool.false_eq_true,if_true,if_false,Bool.true_eq_false,rdV_0,rdV_1,rdV_2,rdV_3,rdV_4,rdV_5,rdV_6,rdV_7,rdV_8, lim2, true_and]
    exact hQ _ ⟨_, false, get_last, Int.emod_nonneg _ (by decide), fun _ => Int.emod_lt_of_pos _ (by decide)⟩
end W
end
section
set_option maxRecDepth 100000
set_option maxHeartbeats 4000000
namespace W
open PySem PySem.Spec PyProof.Rows L2 S3 S4
def rowN (n a : Nat) : List (List Int) := (List.range' (a + 1) (n - (a + 1))).map fun b : Nat => [(a : Int), (b : Int)]
def pairsN (n : Nat) : List (List Int) := (List.range n).flatMap (rowN n)
theorem pairs_len {n : Nat} (hn : n ≤ 14) : (pairsN n).length ≤ 91 := by
  have : ∀ m, m < 15 → (pairsN m).length ≤ 91 := by decide +kernel
  exact this n (by omega)
theorem row_len {n a : Nat} (hn : n ≤ 14) : (rowN n a).length ≤ 14 := by unfold rowN; simp; omega
theorem pre_len {n : Nat} (hn : n ≤ 14) {pre post : List Nat} (h : List.range n = pre ++ post) : (pre.flatMap (rowN n)).length ≤ 91 := by
  have : (pairsN n).length = (pre.flatMap (rowN n)).length + (post.flatMap (rowN n)).length := by unfold pairsN; rw [h, List.flatMap_append, List.length_append]
  have := pairs_len hn
  omega
theorem runs_for0 {items : List D} {g : TMG} {b : TMS} {Q : Out → Store → Prop} {ρ : Env0} {S : Store} (I : List D → Env0 → Store → Prop) (h0 : I items ρ S)
    (hend : ∀ ρ S, I [] ρ S → Q (.nx ρ) S)
    (hturn : ∀ d ds ρ S, I (d :: ds) ρ S → runs (g d ρ) S (fun ρ1 S1 => runs (b ρ1) S1 (fun o S2 => match o with | .nx ρ' => I ds ρ' S2 | .ct ρ' => I ds ρ' S2 | .bk ρ' => Q (.nx ρ') S2 | .ret r => Q (.ret r) S2))) :
    runs (forD ⟨items, none⟩ g b items ρ) S Q := runs_for (it := ⟨items, none⟩) I (fun _ _ _ _ => trivial) hend hturn items ρ S h0
theorem r_pairs {n : Nat} {S : Store} {Q : D → Store → Prop} (hn : n ≤ 14) (hQ : ∀ S', S.length < S'.length → (∀ i, i < S.length → S'[i]? = S[i]?) → S'[S.length]? = some ((pairsN n).map tupI) → Q (.lst S.length) S') : runs (F__law_pairs [.int n]) S Q := by
  unfold F__law_pairs m__law_pairs
  refine (runs_fn rfl).mpr ?_
  have l0 : 0 ≤ lim := Nat.zero_le _
  have hr : -(2 ^ 62) ≤ (n : Int) ∧ (n : Int) < 2 ^ 62 := ⟨by omega, by omega⟩
  simp only [Nat.zero_add,Nat.reduceAdd,Nat.reduceSub,mComp,sFor,runs_bind,runs_pure,runs_ite,runs_asB,runs_asI,runs_newL,runs_getL,runs_setL,runs_mkTup,runs_fail,List.map_cons,List.map_nil,List.replicate,List.cons_append,List.nil_append,List.set_cons_succ,List.set_cons_zero,outD,seqO,mV,mK,mAnd,mOr,mNot,mIf,aNil,aCons,mTup,mLst,aConsD,mCall,mB1,mOp,mChain,oN,oS,mSl,mRev,mIsi,mIsi2,mMt,bV,bOp,bChain,bChain3,bNot,bAnd,bOr,bTrue,iR1,iR2,iSeq,iZip,gN,gIt,sNil,sCons,sEx,sRet,sIf,sSet,sAsg,sPar,sWhile,gTupD,gsCons,gsNil,List.length_cons,List.length_nil,Bool.not_true,Bool.not_false,Bool.false_eq_true,if_true,if_false,Bool.true_eq_false,rdV_0,rdV_1,rdV_2,rdV_3,rdV_4,rdV_5,rdV_6,rdV_7,rdV_8, l0, true_and, rangeI, hr, and_self, Int.toNat_natCast]
  refine runs_for0 (fun ds ρ S' => ∃ pre post x, List.range n = pre ++ post ∧ ds = post.map (fun i : Nat => D.int (0 + (i : Nat))) ∧ ρ = [some (.int n), some (.lst S.length), x] ∧ S.length < S'.length ∧ (∀ i, i < S.length → S'[i]? = S[i]?) ∧
    S'[S.length]? = some ((pre.flatMap (rowN n)).map tupI)) ⟨[], List.range n, none, rfl, rfl, rfl, by simp, fun i hi => List.getElem?_append_left hi, get_last⟩ ?_ ?_
  · rintro ρ S' ⟨pre, post, x, e, e2, rfl, h1, h2, h3⟩
    have : post = [] := by simpa using e2.symm
    subst this
    rw [List.append_nil] at e
    simp only [Nat.zero_add,Nat.reduceAdd,Nat.reduceSub,mComp,sFor,runs_bind,runs_pure,runs_ite,runs_asB,runs_asI,runs_newL,runs_getL,runs_setL,runs_mkTup,runs_fail,List.map_cons,List.map_nil,List.replicate,List.cons_append,List.nil_append,List.set_cons_succ,List.set_cons_zero,outD,seqO,mV,mK,mAnd,mOr,mNot,mIf,aNil,aCons,mTup,mLst,aConsD,mCall,mB1,mOp,mChain,oN,oS,mSl,mRev,mIsi,mIsi2,mMt,bV,bOp,bChain,bChain3,bNot,bAnd,bOr,bTrue,iR1,iR2,iSeq,iZip,gN,gIt,sNil,sCons,sEx,sRet,sIf,sSet,sAsg,sPar,sWhile,gTupD,gsCons,gsNil,List.length_cons,List.length_nil,Bool.not_true,Bool.not_false,Bool.false_eq_true,if_true,if_false,Bool.true_eq_false,rdV_0,rdV_1,rdV_2,rdV_3,rdV_4,rdV_5,rdV_6,rdV_7,rdV_8]
    exact hQ S' h1 h2 (by unfold pairsN; rw [e]; exact h3)
  · rintro d ds ρ S' ⟨pre, post, x, e, e2, rfl, h1, h2, h3⟩
    match post, e2 with
    | [], e2 => cases e2
    | a :: post, e2 =>
      simp only [List.map_cons, List.cons.injEq] at e2
      obtain ⟨rfl, rfl⟩ := e2
      have hp := pre_len hn (pre := pre) e
      have hal : a < n := List.mem_range.mp (by rw [e]; simp)
      have hr2 : -(2 ^ 62) ≤ (0 + (a : Int) + 1) ∧ (0 + (a : Int) + 1) < 2 ^ 62 ∧ -(2 ^ 62) ≤ (n : Int) ∧ (n : Int) < 2 ^ 62 := ⟨by omega, by omega, by omega, by omega⟩
      unfold m__law_pairs_b3
      simp only [Nat.zero_add,Nat.reduceAdd,Nat.reduceSub,mComp,sFor,runs_bind,runs_pure,runs_ite,runs_asB,runs_asI,runs_newL,runs_getL,runs_setL,runs_mkTup,runs_fail,List.map_cons,List.map_nil,List.replicate,List.cons_append,List.nil_append,List.set_cons_succ,List.set_cons_zero,outD,seqO,mV,mK,mAnd,mOr,mNot,mIf,aNil,aCons,mTup,mLst,aConsD,mCall,mB1,mOp,mChain,oN,oS,mSl,mRev,mIsi,mIsi2,mMt,bV,bOp,bChain,bChain3,bNot,bAnd,bOr,bTrue,iR1,iR2,iSeq,iZip,gN,gIt,sNil,sCons,sEx,sRet,sIf,sSet,sAsg,sPar,sWhile,gTupD,gsCons,gsNil,List.length_cons,List.length_nil,Bool.not_true,Bool.not_false,Bool.false_eq_true,if_true,if_false,Bool.true_eq_false,rdV_0,rdV_1,rdV_2,rdV_3,rdV_4,rdV_5,rdV_6,rdV_7,rdV_8, asL, addD, rangeI2, hr2, and_self]
      refine runs_comp_map (fun ρ => ∃ y, ρ = [y, some (.int (0 + (a : Int)))]) (fun d => .tup [.int (0 + (a : Int)), d]) (by simp only [rangeL, List.length_map, List.length_range]; unfold lim; omega) rfl ⟨none, rfl⟩ ?_ ?_
      · rintro d hd ρ ⟨y, rfl⟩
        unfold m__law_pairs_t1 m__law_pairs_e2
        simp only [Nat.zero_add,Nat.reduceAdd,Nat.reduceSub,mComp,sFor,runs_bind,runs_pure,runs_ite,runs_asB,runs_asI,runs_newL,runs_getL,runs_setL,runs_mkTup,runs_fail,List.map_cons,List.map_nil,List.replicate,List.cons_append,List.nil_append,List.set_cons_succ,List.set_cons_zero,outD,seqO,mV,mK,mAnd,mOr,mNot,mIf,aNil,aCons,mTup,mLst,aConsD,mCall,mB1,mOp,mChain,oN,oS,mSl,mRev,mIsi,mIsi2,mMt,bV,bOp,bChain,bChain3,bNot,bAnd,bOr,bTrue,iR1,iR2,iSeq,iZip,gN,gIt,sNil,sCons,sEx,sRet,sIf,sSet,sAsg,sPar,sWhile,gTupD,gsCons,gsNil,List.length_cons,List.length_nil,Bool.not_true,Bool.not_false,Bool.false_eq_true,if_true,if_false,Bool.true_eq_false,rdV_0,rdV_1,rdV_2,rdV_3,rdV_4,rdV_5,rdV_6,rdV_7,rdV_8, lim2, true_and, and_self]
        exact ⟨⟨_, rfl⟩, trivial⟩
      · have er : (rangeL (0 + (a : Int) + 1) ((n : Int) - (0 + (a : Int) + 1)).toNat).map (fun d => D.tup [.int (0 + (a : Int)), d]) = (rowN n a).map tupI := by
          unfold rangeL rowN
          rw [List.map_map, List.map_map, List.range'_eq_map_range, List.map_map]
          have : ((n : Int) - (0 + (a : Int) + 1)).toNat = n - (a + 1) := by omega
          rw [this]
          refine List.map_congr_left fun i hi => ?_
          simp only [Function.comp, tupI, List.map_cons, List.map_nil]
          congr 1
          simp only [List.cons.injEq, D.int.injEq, and_true]
          omega
        rw [er]
        have l1 : ((rowN n a).map tupI).length ≤ lim := by have := row_len (a := a) hn; simp; unfold lim; omega
        have g1 : (S' ++ [(rowN n a).map tupI])[S.length]? = some ((pre.flatMap (rowN n)).map tupI) := by rw [List.getElem?_append_left h1]; exact h3
        have l2 : ((pre.flatMap (rowN n)).map tupI ++ (rowN n a).map tupI).length ≤ lim := by have := row_len (a := a) hn; simp only [List.length_append, List.length_map]; unfold lim; omega
        have l3 : S.length < (S' ++ [(rowN n a).map tupI]).length := by rw [List.length_append]; omega
        simp only [Nat.zero_add,Nat.reduceAdd,Nat.reduceSub,mComp,sFor,runs_bind,runs_pure,runs_ite,runs_asB,runs_asI,runs_newL,runs_getL,runs_setL,runs_mkTup,runs_fail,List.map_cons,List.map_nil,List.replicate,List.cons_append,List.nil_append,List.set_cons_succ,List.set_cons_zero,outD,seqO,mV,mK,mAnd,mOr,mNot,mIf,aNil,aCons,mTup,mLst,aConsD,mCall,mB1,mOp,mChain,oN,oS,mSl,mRev,mIsi,mIsi2,mMt,bV,bOp,bChain,bChain3,bNot,bAnd,bOr,bTrue,iR1,iR2,iSeq,iZip,gN,gIt,sNil,sCons,sEx,sRet,sIf,sSet,sAsg,sPar,sWhile,gTupD,gsCons,gsNil,List.length_cons,List.length_nil,Bool.not_true,Bool.not_false,Bool.false_eq_true,if_true,if_false,Bool.true_eq_false,rdV_0,rdV_1,rdV_2,rdV_3,rdV_4,rdV_5,rdV_6,rdV_7,rdV_8, extendD, l1, g1, get_last, Option.some.injEq, exists_eq_left', l2, l3, true_and, and_self]
        refine ⟨pre ++ [a], post, some (.int (0 + (a : Int))), by rw [e]; simp, rfl, rfl, by simp; omega, fun i hi => ?_, ?_⟩
        · rw [List.getElem?_set_ne (by omega), List.getElem?_append_left (by omega)]; exact h2 i hi
        · rw [List.getElem?_set_self l3, List.flatMap_append, List.map_append]; simp
theorem runs_while {t : TMB} {b : TMS} {Q : Out → Store → Prop} (I : Nat → Env0 → Store → Prop)
    (hturn : ∀ n ρ S, I n ρ S → runs (t ρ) S (fun c S1 => if c = true then runs (b ρ) S1 (fun o S2 => match o with | .nx ρ' => ∃ m, m < n ∧ I m ρ' S2 | .ct ρ' => ∃ m, m < n ∧ I m ρ' S2 | .bk ρ' => Q (.nx ρ') S2 | .ret r => Q (.ret r) S2) else Q (.nx ρ) S1)) :
    ∀ k n ρ S, n < k → I n ρ S → runs (whileD t b k ρ) S Q
  | 0, n, ρ, S, h, _ => absurd h (Nat.not_lt_zero _)
  | k + 1, n, ρ, S, h, hi => by
    unfold whileD
    rw [runs_bind]
    refine runs_mono (hturn n ρ S hi) fun c S1 h1 => ?_
    cases c with
    | false => rw [if_neg (by decide)] at h1 ⊢; exact runs_pure.mpr h1
    | true =>
      rw [if_pos rfl] at h1 ⊢
      rw [runs_bind]
      refine runs_mono h1 fun o S2 h2 => ?_
      cases o with
      | nx ρ' => obtain ⟨m, hm, hi'⟩ := h2; exact runs_while I hturn k m ρ' S2 (by omega) hi'
      | ct ρ' => obtain ⟨m, hm, hi'⟩ := h2; exact runs_while I hturn k m ρ' S2 (by omega) hi'
      | bk ρ' => exact runs_pure.mpr h2
      | ret r => exact runs_pure.mpr h2
end W
end
section
set_option maxRecDepth 100000
set_option maxHeartbeats 4000000
namespace W
open PySem PySem.Spec PyProof.Rows L2 S3 S4
structure Kp (k : Nat) (S S' : Store) : Prop where
  len : S.length ≤ S'.length
  oth : ∀ i, i < S.length → i ≠ k → S'[i]? = S[i]?
  st : StAt S' k
theorem Kp.trans {k : Nat} {S S1 S2 : Store} (a : Kp k S S1) (b : Kp k S1 S2) : Kp k S S2 := ⟨Nat.le_trans a.len b.len, fun i hi hk => (b.oth i (Nat.lt_of_lt_of_le hi a.len) hk).trans (a.oth i hi hk), b.st⟩
theorem Kp.refl {k : Nat} {S : Store} (h : StAt S k) : Kp k S S := ⟨Nat.le_refl _, fun _ _ _ => rfl, h⟩
theorem StAt.grow {k : Nat} {S G : Store} (h : StAt S k) : StAt (S ++ G) k := by
  obtain ⟨st, b, e, r⟩ := id h
  exact ⟨st, b, by rw [List.getElem?_append_left h.lt]; exact e, r⟩
theorem Kp.grow {k : Nat} {S : Store} (h : StAt S k) (G : Store) : Kp k S (S ++ G) := ⟨by simp, fun i hi _ => List.getElem?_append_left hi, h.grow⟩
theorem Kp.mk0 {k : Nat} {S S' : Store} (h : StAt S k) (h1 : S.length ≤ S'.length) (h2 : ∀ i, i < S.length → S'[i]? = S[i]?) : Kp k S S' := by
  obtain ⟨st, b, e, r⟩ := id h
  exact ⟨h1, fun i hi _ => h2 i hi, st, b, by rw [h2 k h.lt]; exact e, r⟩
theorem r_takeK {S : Store} {k : Nat} {many : Int} {Q : D → Store → Prop} (hs : StAt S k) (h0 : 0 < many) (h1 : many < 1073741824) (hQ : ∀ j S', 0 ≤ j → j < many → S'.length = S.length → Kp k S S' → Q (.int j) S') : runs (F__law_take [.lst k, .int many]) S Q :=
  r_take hs h0 h1 fun j S' a b c d e => hQ j S' a b c ⟨Nat.le_of_eq c.symm, fun i _ hk => d i hk, e⟩
theorem mapP_ints {S : Store} {n : Nat} : ∀ ns : List Int, mapP (toP S n) (ns.map D.int) = some (ns.map PyData.int)
  | [] => rfl
  | x :: r => by
    show (match toP S n (D.int x), mapP (toP S n) (r.map D.int) with | some p, some ps => some (p :: ps) | _, _ => none) = _
    rw [toP_int, mapP_ints r]; rfl
theorem toP_ints {S : Store} {k n : Nat} {ns : List Int} (h : S[k]? = some (ns.map D.int)) : toP S (n + 1) (.lst k) = some (.list (ns.map PyData.int)) := by
  show ((S[k]?).bind fun xs => (mapP (toP S n) xs).map PyData.list) = _
  rw [h]
  show (mapP (toP S n) (ns.map D.int)).map PyData.list = _
  rw [mapP_ints]; rfl
theorem ne_nil {S : Store} {a b : Nat} {ns : List Int} {Q : D → Store → Prop} (h1 : S[a]? = some (ns.map D.int)) (h2 : S[b]? = some []) : runs (neD (.lst a) (.lst b)) S Q ↔ Q (.bl (!ns.isEmpty)) S := by
  unfold neD
  rw [runs_eq (toP_ints h1) (toP_ints (ns := []) h2)]
  have : PyData.eqv (.list (ns.map PyData.int)) (.list (List.map PyData.int [])) = ns.isEmpty := by
    cases ns with
    | nil => simp [PyData.eqv, PyData.eqvAll]
    | cons x r => simp [PyData.eqv, PyData.eqvAll]
  rw [this]
theorem erase_map {α β : Type} (f : α → β) : ∀ (l : List α) (i : Nat), (l.map f).eraseIdx i = (l.eraseIdx i).map f
  | [], _ => rfl
  | _ :: _, 0 => rfl
  | a :: l, i + 1 => by simp [erase_map f l i]
theorem r_mixed {S : Store} {k t : Nat} {ns : List Int} {Q : D → Store → Prop} (hs : StAt S k) (ht : S[t]? = some (ns.map D.int)) (hl : ns.length ≤ 14)
    (hQ : ∀ (p : Nat) (ms : List Int) (S' : Store), ms.length = ns.length → S'[p]? = some (ms.map D.int) → S.length ≤ p → Kp k S S' → Q (.lst p) S') : runs (F__law_mixed_row [.lst k, .lst t]) S Q := by
  unfold F__law_mixed_row m__law_mixed_row
  refine (runs_fn rfl).mpr ?_
  have hk := hs.lt
  have l0 : 0 ≤ lim := Nat.zero_le _
  have l1 : (ns.map D.int).length ≤ lim := by simp; unfold lim; omega
  simp only [Nat.zero_add,Nat.reduceAdd,Nat.reduceSub,mComp,sFor,runs_bind,runs_pure,runs_ite,runs_asB,runs_asI,runs_newL,runs_getL,runs_setL,runs_mkTup,runs_fail,List.map_cons,List.map_nil,List.replicate,List.cons_append,List.nil_append,List.set_cons_succ,List.set_cons_zero,outD,seqO,mV,mK,mAnd,mOr,mNot,mIf,aNil,aCons,mTup,mLst,aConsD,mCall,mB1,mOp,mChain,oN,oS,mSl,mRev,mIsi,mIsi2,mMt,bV,bOp,bChain,bChain3,bNot,bAnd,bOr,bTrue,iR1,iR2,iSeq,iZip,gN,gIt,sNil,sCons,sEx,sRet,sIf,sSet,sAsg,sPar,sWhile,gTupD,gsCons,gsNil,List.length_cons,List.length_nil,Bool.not_true,Bool.not_false,Bool.false_eq_true,if_true,if_false,Bool.true_eq_false,rdV_0,rdV_1,rdV_2,rdV_3,rdV_4,rdV_5,rdV_6,rdV_7,rdV_8, listD, ht, Option.some.injEq, exists_eq_left', l1, l0, true_and]
  have start : Kp k S (S ++ [ns.map D.int] ++ [[]]) := by rw [List.append_assoc]; exact Kp.grow hs _
  refine runs_while (fun n ρ S' => ∃ (ls ms : List Int), n = ls.length ∧ ls.length + ms.length = ns.length ∧ ρ = [some (.lst k), some (.lst t), some (.lst S.length), some (.lst (S ++ [ns.map D.int]).length)] ∧ S.length + 2 ≤ S'.length ∧
    S'[S.length]? = some (ls.map D.int) ∧ S'[S.length + 1]? = some (ms.map D.int) ∧ Kp k S S') ?_ 64 ns.length _ _ (by omega) ⟨ns, [], rfl, by simp, rfl, by simp, by simp, by simp, start⟩
  rintro n ρ S' ⟨ls, ms, rfl, hsum, rfl, hlen, g1, g2, kp⟩
  have hS1 : (S ++ [ns.map D.int]).length = S.length + 1 := by simp
  rw [hS1]
  have a1 : (S' ++ [[]])[S.length]? = some (ls.map D.int) := by rw [List.getElem?_append_left (by omega)]; exact g1
  have a2 : (S' ++ [[]])[S.length + 1]? = some (ms.map D.int) := by rw [List.getElem?_append_left (by omega)]; exact g2
  have kp1 : Kp k S (S' ++ [[]]) := kp.trans (Kp.grow kp.st _)
  simp only [Nat.zero_add,Nat.reduceAdd,Nat.reduceSub,mComp,sFor,runs_bind,runs_pure,runs_ite,runs_asB,runs_asI,runs_newL,runs_getL,runs_setL,runs_mkTup,runs_fail,List.map_cons,List.map_nil,List.replicate,List.cons_append,List.nil_append,List.set_cons_succ,List.set_cons_zero,outD,seqO,mV,mK,mAnd,mOr,mNot,mIf,aNil,aCons,mTup,mLst,aConsD,mCall,mB1,mOp,mChain,oN,oS,mSl,mRev,mIsi,mIsi2,mMt,bV,bOp,bChain,bChain3,bNot,bAnd,bOr,bTrue,iR1,iR2,iSeq,iZip,gN,gIt,sNil,sCons,sEx,sRet,sIf,sSet,sAsg,sPar,sWhile,gTupD,gsCons,gsNil,List.length_cons,List.length_nil,Bool.not_true,Bool.not_false,Bool.false_eq_true,if_true,if_false,Bool.true_eq_false,rdV_0,rdV_1,rdV_2,rdV_3,rdV_4,rdV_5,rdV_6,rdV_7,rdV_8, l0, true_and, ne_nil a1 get_last]
  by_cases he : ls = []
  · subst he
    simp only [List.isEmpty_nil, Nat.zero_add,Nat.reduceAdd,Nat.reduceSub,mComp,sFor,runs_bind,runs_pure,runs_ite,runs_asB,runs_asI,runs_newL,runs_getL,runs_setL,runs_mkTup,runs_fail,List.map_cons,List.map_nil,List.replicate,List.cons_append,List.nil_append,List.set_cons_succ,List.set_cons_zero,outD,seqO,mV,mK,mAnd,mOr,mNot,mIf,aNil,aCons,mTup,mLst,aConsD,mCall,mB1,mOp,mChain,oN,oS,mSl,mRev,mIsi,mIsi2,mMt,bV,bOp,bChain,bChain3,bNot,bAnd,bOr,bTrue,iR1,iR2,iSeq,iZip,gN,gIt,sNil,sCons,sEx,sRet,sIf,sSet,sAsg,sPar,sWhile,gTupD,gsCons,gsNil,List.length_cons,List.length_nil,Bool.not_true,Bool.not_false,Bool.false_eq_true,if_true,if_false,Bool.true_eq_false,rdV_0,rdV_1,rdV_2,rdV_3,rdV_4,rdV_5,rdV_6,rdV_7,rdV_8]
    exact hQ _ ms _ (by simpa using hsum) a2 (by omega) kp1
  · have hie : ls.isEmpty = false := by cases ls with | nil => exact absurd rfl he | cons _ _ => rfl
    have hpos : 0 < ls.length := by cases ls with | nil => exact absurd rfl he | cons _ _ => simp
    simp only [hie, Nat.zero_add,Nat.reduceAdd,Nat.reduceSub,mComp,sFor,runs_bind,runs_pure,runs_ite,runs_asB,runs_asI,runs_newL,runs_getL,runs_setL,runs_mkTup,runs_fail,List.map_cons,List.map_nil,List.replicate,List.cons_append,List.nil_append,List.set_cons_succ,List.set_cons_zero,outD,seqO,mV,mK,mAnd,mOr,mNot,mIf,aNil,aCons,mTup,mLst,aConsD,mCall,mB1,mOp,mChain,oN,oS,mSl,mRev,mIsi,mIsi2,mMt,bV,bOp,bChain,bChain3,bNot,bAnd,bOr,bTrue,iR1,iR2,iSeq,iZip,gN,gIt,sNil,sCons,sEx,sRet,sIf,sSet,sAsg,sPar,sWhile,gTupD,gsCons,gsNil,List.length_cons,List.length_nil,Bool.not_true,Bool.not_false,Bool.false_eq_true,if_true,if_false,Bool.true_eq_false,rdV_0,rdV_1,rdV_2,rdV_3,rdV_4,rdV_5,rdV_6,rdV_7,rdV_8]
    unfold m__law_mixed_row_b1
    simp only [Nat.zero_add,Nat.reduceAdd,Nat.reduceSub,mComp,sFor,runs_bind,runs_pure,runs_ite,runs_asB,runs_asI,runs_newL,runs_getL,runs_setL,runs_mkTup,runs_fail,List.map_cons,List.map_nil,List.replicate,List.cons_append,List.nil_append,List.set_cons_succ,List.set_cons_zero,outD,seqO,mV,mK,mAnd,mOr,mNot,mIf,aNil,aCons,mTup,mLst,aConsD,mCall,mB1,mOp,mChain,oN,oS,mSl,mRev,mIsi,mIsi2,mMt,bV,bOp,bChain,bChain3,bNot,bAnd,bOr,bTrue,iR1,iR2,iSeq,iZip,gN,gIt,sNil,sCons,sEx,sRet,sIf,sSet,sAsg,sPar,sWhile,gTupD,gsCons,gsNil,List.length_cons,List.length_nil,Bool.not_true,Bool.not_false,Bool.false_eq_true,if_true,if_false,Bool.true_eq_false,rdV_0,rdV_1,rdV_2,rdV_3,rdV_4,rdV_5,rdV_6,rdV_7,rdV_8, asL, lenD, a1, Option.some.injEq, exists_eq_left']
    refine r_takeK kp1.st (by simp; omega) (by simp; omega) fun j S2 j0 j1 e2 kp2 => ?_
    have b1 : S2[S.length]? = some (ls.map D.int) := by rw [kp2.oth _ (by simp; omega) (by omega)]; exact a1
    have b2 : S2[S.length + 1]? = some (ms.map D.int) := by rw [kp2.oth _ (by simp; omega) (by omega)]; exact a2
    have e2' : S2.length = S'.length + 1 := by rw [e2]; simp
    have hj : j.toNat < ls.length := by simp only [List.length_map] at j1; omega
    have hb : 0 ≤ j ∧ j < ((ls.map D.int).length : Nat) := ⟨j0, by simpa using j1⟩
    have hg : (ls.map D.int)[j.toNat]? = some (.int ls[j.toNat]) := by rw [List.getElem?_map, List.getElem?_eq_getElem hj]; rfl
    have le1 : ((ls.map D.int).eraseIdx j.toNat).length ≤ lim := by rw [List.length_eraseIdx]; simp only [List.length_map]; unfold lim; split <;> omega
    have lt1 : S.length < S2.length := by omega
    simp only [popAtD, appendD, Nat.zero_add,Nat.reduceAdd,Nat.reduceSub,mComp,sFor,runs_bind,runs_pure,runs_ite,runs_asB,runs_asI,runs_newL,runs_getL,runs_setL,runs_mkTup,runs_fail,List.map_cons,List.map_nil,List.replicate,List.cons_append,List.nil_append,List.set_cons_succ,List.set_cons_zero,outD,seqO,mV,mK,mAnd,mOr,mNot,mIf,aNil,aCons,mTup,mLst,aConsD,mCall,mB1,mOp,mChain,oN,oS,mSl,mRev,mIsi,mIsi2,mMt,bV,bOp,bChain,bChain3,bNot,bAnd,bOr,bTrue,iR1,iR2,iSeq,iZip,gN,gIt,sNil,sCons,sEx,sRet,sIf,sSet,sAsg,sPar,sWhile,gTupD,gsCons,gsNil,List.length_cons,List.length_nil,Bool.not_true,Bool.not_false,Bool.false_eq_true,if_true,if_false,Bool.true_eq_false,rdV_0,rdV_1,rdV_2,rdV_3,rdV_4,rdV_5,rdV_6,rdV_7,rdV_8, b1, Option.some.injEq, exists_eq_left', hb, and_self, hg, le1, lt1, true_and]
    have c2 : (S2.set S.length ((ls.map D.int).eraseIdx j.toNat))[S.length + 1]? = some (ms.map D.int) := by rw [List.getElem?_set_ne (by omega)]; exact b2
    have le2 : (ms.map D.int ++ [D.int ls[j.toNat]]).length ≤ lim := by simp; unfold lim; omega
    have lt2 : S.length + 1 < (S2.set S.length ((ls.map D.int).eraseIdx j.toNat)).length := by rw [List.length_set]; omega
    simp only [c2, Option.some.injEq, exists_eq_left', le2, lt2, and_self, true_and]
    refine ⟨ls.length - 1, by omega, ls.eraseIdx j.toNat, ms ++ [ls[j.toNat]], ?_, ?_, by simp; omega, ?_, ?_, ?_⟩
    · rw [List.length_eraseIdx_of_lt hj]
    · rw [List.length_eraseIdx_of_lt hj]; simp; omega
    · rw [List.getElem?_set_ne (by omega), List.getElem?_set_self lt1, erase_map]
    · rw [List.getElem?_set_self lt2]; simp
    · have k2 := kp1.trans kp2
      refine ⟨by simp; omega, fun i hi hik => ?_, ?_⟩
      · rw [List.getElem?_set_ne (by omega), List.getElem?_set_ne (by omega)]; exact k2.oth i hi hik
      · obtain ⟨st, b, e, q⟩ := k2.st
        exact ⟨st, b, by rw [List.getElem?_set_ne (by omega), List.getElem?_set_ne (by omega)]; exact e, q⟩
end W
end
section
set_option maxRecDepth 100000
set_option maxHeartbeats 4000000
namespace W
open PySem PySem.Spec PyProof.Rows L2 S3 S4
theorem runs_comp_sub {xs : List D} {p k : Nat} {g : TMG} {t : TMB} {m : TM} {ρ : Env0} {S : Store} {Q : List D → Store → Prop} (R : Env0 → Prop) (hl : xs.length ≤ lim) (hs : StAt S k) (hp : S[p]? = some xs) (hpk : p ≠ k) (hR : R ρ)
    (hturn : ∀ d ∈ xs, ∀ ρ S', R ρ → Kp k S S' → runs (g d ρ) S' (fun ρ1 S1 => S1 = S' ∧ R ρ1 ∧ runs (t ρ1) S' (fun b S2 => Kp k S' S2 ∧ runs (m ρ1) S2 (fun y S3 => S3 = S2 ∧ y = d))))
    (hQ : ∀ ys S', ys.Sublist xs → Kp k S S' → Q ys S') : runs (compAll ⟨xs, some p⟩ g t m ρ) S Q := by
  have plt : p < S.length := (List.getElem?_eq_some_iff.mp hp).1
  refine runs_compAll hl (fun ds ρ ys S' => Kp k S S' ∧ R ρ ∧ ∃ pre, xs = pre ++ ds ∧ ys.Sublist pre) (fun ds ρ ys S' h => ?_) ?_ ⟨.refl hs, hR, [], rfl, .slnil⟩ ?_
  · show S'[p]? = some xs
    rw [h.1.oth p plt hpk]; exact hp
  · rintro d ds ρ ys S' ⟨kp, hr, pre, e, sb⟩
    refine runs_mono (hturn d (by rw [e]; simp) ρ S' hr kp) fun ρ1 S1 ⟨e1, r1, h1⟩ => ?_
    subst e1
    refine runs_mono h1 fun b S2 ⟨k2, h2⟩ => ?_
    cases b with
    | true =>
      rw [if_pos rfl]
      refine runs_mono h2 fun y S3 ⟨e3, ey⟩ => ?_
      subst e3 ey
      exact ⟨kp.trans k2, r1, pre ++ [y], by rw [e]; simp, sb.append (.refl _)⟩
    | false =>
      rw [if_neg (by decide)]
      exact ⟨kp.trans k2, r1, pre ++ [d], by rw [e]; simp, sb.trans (List.sublist_append_left _ _)⟩
  · rintro ρ' zs S' ⟨kp, _, pre, e, sb⟩
    rw [List.append_nil] at e
    subst e
    exact hQ zs S' sb kp
def pRow (r : List Int) : PyData := .tuple (r.map PyData.int)
theorem toP_row {S : Store} {n : Nat} (r : List Int) : toP S (n + 1) (tupI r) = some (pRow r) := by
  show (mapP (toP S n) (r.map D.int)).map PyData.tuple = _
  rw [mapP_ints]; rfl
theorem mapP_rows {S : Store} {n : Nat} : ∀ rs : List (List Int), mapP (toP S (n + 1)) (rs.map tupI) = some (rs.map pRow)
  | [] => rfl
  | x :: r => by
    show (match toP S (n + 1) (tupI x), mapP (toP S (n + 1)) (r.map tupI) with | some p, some ps => some (p :: ps) | _, _ => none) = _
    rw [toP_row, mapP_rows r]; rfl
theorem toP_rows {S : Store} {k n : Nat} {rs : List (List Int)} (h : S[k]? = some (rs.map tupI)) : toP S (n + 2) (.lst k) = some (.list (rs.map pRow)) := by
  show ((S[k]?).bind fun xs => (mapP (toP S (n + 1)) xs).map PyData.list) = _
  rw [h]
  show (mapP (toP S (n + 1)) (rs.map tupI)).map PyData.list = _
  rw [mapP_rows]; rfl
theorem in_rows {S : Store} {k : Nat} {r : List Int} {rs : List (List Int)} {Q : D → Store → Prop} (h : S[k]? = some (rs.map tupI)) (hQ : ∀ b, Q (.bl b) S) : runs (inD (tupI r) (.lst k)) S Q := by
  unfold inD
  rw [runs_in (toP_row r) (toP_rows h) rfl]
  exact hQ _
theorem ne_bl {S : Store} {a b : Bool} {Q : D → Store → Prop} (hQ : ∀ b, Q (.bl b) S) : runs (neD (.bl a) (.bl b)) S Q := by
  unfold neD
  rw [runs_eq toP_bl toP_bl]
  exact hQ _
theorem intsOf_map (ns : List Int) : intsOf (ns.map D.int) = some ns := by
  induction ns with
  | nil => rfl
  | cons x r ih => simp [intsOf, ih]
theorem rowsOf_map (rs : List (List Int)) : rowsOf (rs.map tupI) = some rs := by
  induction rs with
  | nil => rfl
  | cons x r ih =>
    show (match intsOf (x.map D.int), rowsOf (r.map tupI) with | some ns, some nss => some (ns :: nss) | _, _ => none) = _
    rw [intsOf_map, ih]
theorem r_pair2 {S : Store} {a b : Int} {Q : D → Store → Prop} (hQ : ∀ r S', r.length = 2 → (∃ G, S' = S ++ G) → Q (tupI r) S') : runs (mB1 tupleD (mB1 sortedD (fun _ => newL [.int a, .int b])) []) S Q := by
  have e : ((S ++ [[D.int a, D.int b]])[S.length]?) = some ([a, b].map D.int) := get_last
  have i2 : intsOf [D.int a, D.int b] = some [a, b] := rfl
  have sl : (sortI [a, b]).length = 2 := (sortI_perm [a, b]).length_eq
  have l3 : ((sortI [a, b]).map D.int).length ≤ lim := by rw [List.length_map, sl]; exact lim2
  simp only [Nat.zero_add,Nat.reduceAdd,Nat.reduceSub,mComp,sFor,runs_bind,runs_pure,runs_ite,runs_asB,runs_asI,runs_newL,runs_getL,runs_setL,runs_mkTup,runs_fail,List.map_cons,List.map_nil,List.replicate,List.cons_append,List.nil_append,List.set_cons_succ,List.set_cons_zero,outD,seqO,mV,mK,mAnd,mOr,mNot,mIf,aNil,aCons,mTup,mLst,aConsD,mCall,mB1,mOp,mChain,oN,oS,mSl,mRev,mIsi,mIsi2,mMt,bV,bOp,bChain,bChain3,bNot,bAnd,bOr,bTrue,iR1,iR2,iSeq,iZip,gN,gIt,sNil,sCons,sEx,sRet,sIf,sSet,sAsg,sPar,sWhile,gTupD,gsCons,gsNil,List.length_cons,List.length_nil,Bool.not_true,Bool.not_false,Bool.false_eq_true,if_true,if_false,Bool.true_eq_false,rdV_0,rdV_1,rdV_2,rdV_3,rdV_4,rdV_5,rdV_6,rdV_7,rdV_8, lim2, true_and, sortedD, get_last, Option.some.injEq, exists_eq_left', i2, l3, tupleD]
  simp only [show (2 : Nat) < 64 by decide, if_true, Nat.zero_add,Nat.reduceAdd,Nat.reduceSub,mComp,sFor,runs_bind,runs_pure,runs_ite,runs_asB,runs_asI,runs_newL,runs_getL,runs_setL,runs_mkTup,runs_fail,List.map_cons,List.map_nil,List.replicate,List.cons_append,List.nil_append,List.set_cons_succ,List.set_cons_zero,outD,seqO,mV,mK,mAnd,mOr,mNot,mIf,aNil,aCons,mTup,mLst,aConsD,mCall,mB1,mOp,mChain,oN,oS,mSl,mRev,mIsi,mIsi2,mMt,bV,bOp,bChain,bChain3,bNot,bAnd,bOr,bTrue,iR1,iR2,iSeq,iZip,gN,gIt,sNil,sCons,sEx,sRet,sIf,sSet,sAsg,sPar,sWhile,gTupD,gsCons,gsNil,List.length_cons,List.length_nil,Bool.not_true,Bool.not_false,Bool.false_eq_true,if_true,if_false,Bool.true_eq_false,rdV_0,rdV_1,rdV_2,rdV_3,rdV_4,rdV_5,rdV_6,rdV_7,rdV_8, l3, true_and, get_last, Option.some.injEq, exists_eq_left']
  exact hQ (sortI [a, b]) _ sl ⟨[[D.int a, D.int b]] ++ [(sortI [a, b]).map D.int], by rw [List.append_assoc]⟩
structure WebOk (many : Int) (ts : List (List Int)) : Prop where
  el : ∀ t ∈ ts, ∃ a b : Int, t = [a, b] ∧ 0 ≤ a ∧ a < b ∧ b < many
  ris : ts.Pairwise fun a b => HT.lexLt a b = true
  few : ts.length ≤ 15
theorem pairs_el {n : Nat} : ∀ t ∈ pairsN n, ∃ a b : Int, t = [a, b] ∧ 0 ≤ a ∧ a < b ∧ b < n := by
  intro t ht
  unfold pairsN at ht
  obtain ⟨a, ha, hb⟩ := List.mem_flatMap.mp ht
  unfold rowN at hb
  obtain ⟨b, hb2, rfl⟩ := List.mem_map.mp hb
  rw [List.mem_range'_1] at hb2
  rw [List.mem_range] at ha
  exact ⟨a, b, rfl, by omega, by omega, by omega⟩
theorem pairs_ris {n : Nat} (hn : n ≤ 6) : (pairsN n).Pairwise (fun a b => HT.lexLt a b = true) ∧ (pairsN n).length ≤ 15 := by
  have : ∀ m, m < 7 → (pairsN m).Pairwise (fun a b => HT.lexLt a b = true) ∧ (pairsN m).length ≤ 15 := by decide +kernel
  exact this n (by omega)
theorem WebOk.of_sub {n : Nat} (hn : n ≤ 6) {ts : List (List Int)} (h : ts.Sublist (pairsN n)) : WebOk n ts :=
  ⟨fun t ht => pairs_el t (h.subset ht), List.Pairwise.sublist h (pairs_ris hn).1, Nat.le_trans h.length_le (pairs_ris hn).2⟩
theorem sortT_ris {ts : List (List Int)} (h : ts.Pairwise fun a b => HT.lexLt a b = true) : sortT ts = ts :=
  sort_uniq (sortT_perm ts) (sortT_sorted ts) (h.imp fun z => lex_asym z)
theorem rowB_tupI {a b : List Int} : rowB (tupI a) (tupI b) = HT.lexLt a b := by
  simp only [rowB, tupI, intsOf_map]
theorem ris_rows : ∀ {ts : List (List Int)}, ts.Pairwise (fun a b => HT.lexLt a b = true) → risB (ts.map tupI) = true
  | [], _ => rfl
  | [_], _ => rfl
  | a :: b :: r, h => by
    obtain ⟨h1, h2⟩ := List.pairwise_cons.mp h
    show (rowB (tupI a) (tupI b) && risB ((b :: r).map tupI)) = true
    rw [rowB_tupI, h1 b (by simp), ris_rows h2]; rfl
theorem webB_ok {many : Int} {ts : List (List Int)} (h0 : 0 ≤ many) (h14 : many ≤ 14) (w : WebOk many ts) : webB (.tup [.int many, .tup (ts.map tupI)]) = true := by
  have : (ts.map tupI).all (tieB many) = true := by
    rw [List.all_map, List.all_eq_true]
    intro t ht
    obtain ⟨a, b, rfl, h1, h2, h3⟩ := w.el t ht
    simp [tupI, tieB, placeB, h1, h2, h3]
    omega
  simp only [webB, h0, h14, this, ris_rows w.ris, decide_true, Bool.and_self]
end W
end
section
set_option maxRecDepth 100000
set_option maxHeartbeats 4000000
namespace W
open PySem PySem.Spec PyProof.Rows L2 S3 S4
theorem at8 {j : Int} (h0 : 0 ≤ j) (h1 : j < 8) : ∃ v : Int, atI [D.int 0, D.int 0, D.int 1, D.int 0, D.int 2, D.int 1, D.int 3, D.int 6] j = some (.int v) ∧ 0 ≤ v ∧ v ≤ 6 := by
  have : j = 0 ∨ j = 1 ∨ j = 2 ∨ j = 3 ∨ j = 4 ∨ j = 5 ∨ j = 6 ∨ j = 7 := by omega
  rcases this with rfl | rfl | rfl | rfl | rfl | rfl | rfl | rfl
  · exact ⟨0, rfl, by decide, by decide⟩
  · exact ⟨0, rfl, by decide, by decide⟩
  · exact ⟨1, rfl, by decide, by decide⟩
  · exact ⟨0, rfl, by decide, by decide⟩
  · exact ⟨2, rfl, by decide, by decide⟩
  · exact ⟨1, rfl, by decide, by decide⟩
  · exact ⟨3, rfl, by decide, by decide⟩
  · exact ⟨6, rfl, by decide, by decide⟩
theorem at3 {j : Int} (h0 : 0 ≤ j) (h1 : j < 3) : ∃ v : Int, atI [D.int 2, D.int 4, D.int 6] j = some (.int v) := by
  have : j = 0 ∨ j = 1 ∨ j = 2 := by omega
  rcases this with rfl | rfl | rfl
  · exact ⟨2, rfl⟩
  · exact ⟨4, rfl⟩
  · exact ⟨6, rfl⟩
theorem at4 {a b c d j : Int} (h0 : 0 ≤ j) (h1 : j < 4) : ∃ v : Int, atI [D.int a, D.int b, D.int c, D.int d] j = some (.int v) ∧ (v = a ∨ v = b ∨ v = c ∨ v = d) := by
  have : j = 0 ∨ j = 1 ∨ j = 2 ∨ j = 3 := by omega
  rcases this with rfl | rfl | rfl | rfl
  · exact ⟨a, rfl, by simp⟩
  · exact ⟨b, rfl, by simp⟩
  · exact ⟨c, rfl, by simp⟩
  · exact ⟨d, rfl, by simp⟩
theorem atInts {ns : List Int} {i : Int} (h0 : 0 ≤ i) (h1 : i < ns.length) : ∃ v : Int, atI (ns.map D.int) i = some (.int v) := by
  obtain ⟨j, rfl⟩ := Int.eq_ofNat_of_zero_le h0
  have hj : j < ns.length := by omega
  refine ⟨ns[j], ?_⟩
  unfold atI ixN
  simp [hj]
theorem lim8 : 8 ≤ lim := by unfold lim; omega
theorem lim3 : 3 ≤ lim := by unfold lim; omega
theorem lim4 : 4 ≤ lim := by unfold lim; omega
theorem r_sort2 {S : Store} {a b : Int} {Q : D → Store → Prop} (hQ : ∀ r : List Int, r.length = 2 → Q (.lst (S ++ [[D.int a, D.int b]]).length) (S ++ [[D.int a, D.int b]] ++ [r.map D.int])) : runs (sortedD [.lst S.length]) (S ++ [[D.int a, D.int b]]) Q := by
  have i2 : intsOf [D.int a, D.int b] = some [a, b] := rfl
  have sl : (sortI [a, b]).length = 2 := (sortI_perm [a, b]).length_eq
  have l3 : ((sortI [a, b]).map D.int).length ≤ lim := by rw [List.length_map, sl]; exact lim2
  have l4 : (2 : Nat) < 64 := by decide
  simp only [Nat.zero_add,Nat.reduceAdd,Nat.reduceSub,mComp,sFor,runs_bind,runs_pure,runs_ite,runs_asB,runs_asI,runs_newL,runs_getL,runs_setL,runs_mkTup,runs_fail,List.map_cons,List.map_nil,List.replicate,List.cons_append,List.nil_append,List.set_cons_succ,List.set_cons_zero,outD,seqO,mV,mK,mAnd,mOr,mNot,mIf,aNil,aCons,mTup,mLst,aConsD,mCall,mB1,mOp,mChain,oN,oS,mSl,mRev,mIsi,mIsi2,mMt,bV,bOp,bChain,bChain3,bNot,bAnd,bOr,bTrue,iR1,iR2,iSeq,iZip,gN,gIt,sNil,sCons,sEx,sRet,sIf,sSet,sAsg,sPar,sWhile,gTupD,gsCons,gsNil,List.length_cons,List.length_nil,Bool.not_true,Bool.not_false,Bool.false_eq_true,if_true,if_false,Bool.true_eq_false,rdV_0,rdV_1,rdV_2,rdV_3,rdV_4,rdV_5,rdV_6,rdV_7,rdV_8, sortedD, get_last, Option.some.injEq, exists_eq_left', i2, l4, l3, true_and]
  exact hQ _ sl
theorem r_tup {S : Store} {xs : List D} {Q : D → Store → Prop} (hl : xs.length ≤ lim) : runs (tupleD [.lst S.length]) (S ++ [xs]) Q ↔ Q (.tup xs) (S ++ [xs]) := by
  simp only [Nat.zero_add,Nat.reduceAdd,Nat.reduceSub,mComp,sFor,runs_bind,runs_pure,runs_ite,runs_asB,runs_asI,runs_newL,runs_getL,runs_setL,runs_mkTup,runs_fail,List.map_cons,List.map_nil,List.replicate,List.cons_append,List.nil_append,List.set_cons_succ,List.set_cons_zero,outD,seqO,mV,mK,mAnd,mOr,mNot,mIf,aNil,aCons,mTup,mLst,aConsD,mCall,mB1,mOp,mChain,oN,oS,mSl,mRev,mIsi,mIsi2,mMt,bV,bOp,bChain,bChain3,bNot,bAnd,bOr,bTrue,iR1,iR2,iSeq,iZip,gN,gIt,sNil,sCons,sEx,sRet,sIf,sSet,sAsg,sPar,sWhile,gTupD,gsCons,gsNil,List.length_cons,List.length_nil,Bool.not_true,Bool.not_false,Bool.false_eq_true,if_true,if_false,Bool.true_eq_false,rdV_0,rdV_1,rdV_2,rdV_3,rdV_4,rdV_5,rdV_6,rdV_7,rdV_8, tupleD, get_last, Option.some.injEq, exists_eq_left', hl, true_and]
theorem r_app {S S' : Store} {k q p : Nat} {rs : List (List Int)} {ms : List Int} {a b : Int} {Q : D → Store → Prop} (h1 : S'[q]? = some (rs.map tupI)) (h2 : S'[p]? = some (ms.map D.int)) (hpq : p ≠ q) (hqk : q ≠ k) (hlen : rs.length ≤ 1000) (hS : S.length ≤ q) (kp : Kp k S S')
    (hQ : ∀ (r : List Int) (S2 : Store), S'.length ≤ S2.length → S2[q]? = some ((rs ++ [r]).map tupI) → S2[p]? = some (ms.map D.int) → Kp k S S2 → Q .non S2) :
    runs (sortedD [.lst S'.length]) (S' ++ [[D.int a, D.int b]]) (fun x S1 => runs (tupleD [x]) S1 (fun y S2 => runs (appendD (.lst q) [y]) S2 Q)) := by
  refine r_sort2 fun r hr => ?_
  have l2 : (r.map D.int).length ≤ lim := by rw [List.length_map, hr]; exact lim2
  rw [r_tup l2]
  have qlt : q < S'.length := (List.getElem?_eq_some_iff.mp h1).1
  have plt : p < S'.length := (List.getElem?_eq_some_iff.mp h2).1
  have g1 : (S' ++ [[D.int a, D.int b]] ++ [r.map D.int])[q]? = some (rs.map tupI) := by rw [List.append_assoc, List.getElem?_append_left qlt]; exact h1
  have l3 : (rs.map tupI ++ [D.tup (r.map D.int)]).length ≤ lim := by simp; unfold lim; omega
  have l4 : q < (S' ++ [[D.int a, D.int b]] ++ [r.map D.int]).length := by simp; omega
  simp only [Nat.zero_add,Nat.reduceAdd,Nat.reduceSub,mComp,sFor,runs_bind,runs_pure,runs_ite,runs_asB,runs_asI,runs_newL,runs_getL,runs_setL,runs_mkTup,runs_fail,List.map_cons,List.map_nil,List.replicate,List.cons_append,List.nil_append,List.set_cons_succ,List.set_cons_zero,outD,seqO,mV,mK,mAnd,mOr,mNot,mIf,aNil,aCons,mTup,mLst,aConsD,mCall,mB1,mOp,mChain,oN,oS,mSl,mRev,mIsi,mIsi2,mMt,bV,bOp,bChain,bChain3,bNot,bAnd,bOr,bTrue,iR1,iR2,iSeq,iZip,gN,gIt,sNil,sCons,sEx,sRet,sIf,sSet,sAsg,sPar,sWhile,gTupD,gsCons,gsNil,List.length_cons,List.length_nil,Bool.not_true,Bool.not_false,Bool.false_eq_true,if_true,if_false,Bool.true_eq_false,rdV_0,rdV_1,rdV_2,rdV_3,rdV_4,rdV_5,rdV_6,rdV_7,rdV_8, appendD, g1, Option.some.injEq, exists_eq_left', l3, l4, and_self, true_and]
  refine hQ r _ (by simp) ?_ ?_ ?_
  · rw [List.getElem?_set_self l4, List.map_append]; rfl
  · rw [List.getElem?_set_ne (Ne.symm hpq), List.append_assoc, List.getElem?_append_left plt]; exact h2
  · refine ⟨by have := kp.len; simp; omega, fun i hi hik => ?_, ?_⟩
    · have := kp.len
      rw [List.getElem?_set_ne (by omega), List.append_assoc, List.getElem?_append_left (by omega)]; exact kp.oth i hi hik
    · obtain ⟨st, b', e, z⟩ := kp.st
      have klt := kp.st.lt
      exact ⟨st, b', by rw [List.getElem?_set_ne hqk, List.append_assoc, List.getElem?_append_left klt]; exact e, z⟩
theorem r_lweb {S : Store} {k : Nat} {Q : D → Store → Prop} (hs : StAt S k) (hQ : ∀ (many : Int) ts S', 0 ≤ many → many ≤ 6 → WebOk many ts → Kp k S S' → Q (.tup [.int many, .tup (ts.map tupI)]) S') : runs (F__law_web [.lst k, .int 6]) S Q := by
  unfold F__law_web m__law_web
  refine (runs_fn rfl).mpr ?_
  have l0 : 0 ≤ lim := Nat.zero_le _
  simp only [Nat.zero_add,Nat.reduceAdd,Nat.reduceSub,mComp,sFor,runs_bind,runs_pure,runs_ite,runs_asB,runs_asI,runs_newL,runs_getL,runs_setL,runs_mkTup,runs_fail,List.map_cons,List.map_nil,List.replicate,List.cons_append,List.nil_append,List.set_cons_succ,List.set_cons_zero,outD,seqO,mV,mK,mAnd,mOr,mNot,mIf,aNil,aCons,mTup,mLst,aConsD,mCall,mB1,mOp,mChain,oN,oS,mSl,mRev,mIsi,mIsi2,mMt,bV,bOp,bChain,bChain3,bNot,bAnd,bOr,bTrue,iR1,iR2,iSeq,iZip,gN,gIt,sNil,sCons,sEx,sRet,sIf,sSet,sAsg,sPar,sWhile,gTupD,gsCons,gsNil,List.length_cons,List.length_nil,Bool.not_true,Bool.not_false,Bool.false_eq_true,if_true,if_false,Bool.true_eq_false,rdV_0,rdV_1,rdV_2,rdV_3,rdV_4,rdV_5,rdV_6,rdV_7,rdV_8, lim8, true_and]
  refine r_takeK (Kp.grow hs _).st (by decide) (by decide) fun j S1 j0 j1 e1 k1 => ?_
  have kp1 := (Kp.grow hs [[D.int 0, D.int 0, D.int 1, D.int 0, D.int 2, D.int 1, D.int 3, D.int 6]]).trans k1
  obtain ⟨v, ev, v0, v6⟩ := at8 j0 j1
  have hk := hs.lt
  have g1 : S1[S.length]? = some [D.int 0, D.int 0, D.int 1, D.int 0, D.int 2, D.int 1, D.int 3, D.int 6] := by rw [k1.oth _ (by simp) (by omega)]; exact get_last
  simp only [ixD, Nat.zero_add,Nat.reduceAdd,Nat.reduceSub,mComp,sFor,runs_bind,runs_pure,runs_ite,runs_asB,runs_asI,runs_newL,runs_getL,runs_setL,runs_mkTup,runs_fail,List.map_cons,List.map_nil,List.replicate,List.cons_append,List.nil_append,List.set_cons_succ,List.set_cons_zero,outD,seqO,mV,mK,mAnd,mOr,mNot,mIf,aNil,aCons,mTup,mLst,aConsD,mCall,mB1,mOp,mChain,oN,oS,mSl,mRev,mIsi,mIsi2,mMt,bV,bOp,bChain,bChain3,bNot,bAnd,bOr,bTrue,iR1,iR2,iSeq,iZip,gN,gIt,sNil,sCons,sEx,sRet,sIf,sSet,sAsg,sPar,sWhile,gTupD,gsCons,gsNil,List.length_cons,List.length_nil,Bool.not_true,Bool.not_false,Bool.false_eq_true,if_true,if_false,Bool.true_eq_false,rdV_0,rdV_1,rdV_2,rdV_3,rdV_4,rdV_5,rdV_6,rdV_7,rdV_8, g1, Option.some.injEq, exists_eq_left', ev, subD, int2, maxD, int2L]
  obtain ⟨n, hn⟩ : ∃ n : Nat, (if 6 - v > 0 then 6 - v else 0) = (n : Int) := ⟨(6 - v).toNat, by split <;> omega⟩
  have hn6 : n ≤ 6 := by split at hn <;> omega
  rw [hn]
  refine r_takeK kp1.st (by decide) (by decide) fun way S2 w0 w7 e2 k2 => ?_
  have kp2 := kp1.trans k2
  refine r_pairs (by omega) fun S3 s3len s3oth s3at => ?_
  have kp3 := kp2.trans (Kp.mk0 kp2.st (Nat.le_of_lt s3len) s3oth)
  have hk2 : k < S2.length := kp2.st.lt
  have pl : ((pairsN n).map tupI).length ≤ lim := by have := pairs_len (n := n) (by omega); simp; unfold lim; omega
  simp only [seqI, Nat.zero_add,Nat.reduceAdd,Nat.reduceSub,mComp,sFor,runs_bind,runs_pure,runs_ite,runs_asB,runs_asI,runs_newL,runs_getL,runs_setL,runs_mkTup,runs_fail,List.map_cons,List.map_nil,List.replicate,List.cons_append,List.nil_append,List.set_cons_succ,List.set_cons_zero,outD,seqO,mV,mK,mAnd,mOr,mNot,mIf,aNil,aCons,mTup,mLst,aConsD,mCall,mB1,mOp,mChain,oN,oS,mSl,mRev,mIsi,mIsi2,mMt,bV,bOp,bChain,bChain3,bNot,bAnd,bOr,bTrue,iR1,iR2,iSeq,iZip,gN,gIt,sNil,sCons,sEx,sRet,sIf,sSet,sAsg,sPar,sWhile,gTupD,gsCons,gsNil,List.length_cons,List.length_nil,Bool.not_true,Bool.not_false,Bool.false_eq_true,if_true,if_false,Bool.true_eq_false,rdV_0,rdV_1,rdV_2,rdV_3,rdV_4,rdV_5,rdV_6,rdV_7,rdV_8, s3at, Option.some.injEq, exists_eq_left']
  refine runs_comp_sub (fun ρ => ∃ x, ρ = [x, some (.lst k), some (.int way)]) pl kp3.st s3at (by omega) ⟨none, rfl⟩ ?_ ?_
  · rintro d hd ρ S' ⟨x, rfl⟩ kp
    unfold m__law_web_t1 m__law_web_e2
    simp only [Nat.zero_add,Nat.reduceAdd,Nat.reduceSub,mComp,sFor,runs_bind,runs_pure,runs_ite,runs_asB,runs_asI,runs_newL,runs_getL,runs_setL,runs_mkTup,runs_fail,List.map_cons,List.map_nil,List.replicate,List.cons_append,List.nil_append,List.set_cons_succ,List.set_cons_zero,outD,seqO,mV,mK,mAnd,mOr,mNot,mIf,aNil,aCons,mTup,mLst,aConsD,mCall,mB1,mOp,mChain,oN,oS,mSl,mRev,mIsi,mIsi2,mMt,bV,bOp,bChain,bChain3,bNot,bAnd,bOr,bTrue,iR1,iR2,iSeq,iZip,gN,gIt,sNil,sCons,sEx,sRet,sIf,sSet,sAsg,sPar,sWhile,gTupD,gsCons,gsNil,List.length_cons,List.length_nil,Bool.not_true,Bool.not_false,Bool.false_eq_true,if_true,if_false,Bool.true_eq_false,rdV_0,rdV_1,rdV_2,rdV_3,rdV_4,rdV_5,rdV_6,rdV_7,rdV_8]
    refine ⟨trivial, ⟨_, rfl⟩, ?_⟩
    refine r_takeK kp.st (by decide) (by decide) fun j S4 j0 j1 e4 k4 => ?_
    obtain ⟨u, eu⟩ := at3 (j := way % 3) (Int.emod_nonneg _ (by decide)) (Int.emod_lt_of_pos _ (by decide))
    simp only [Nat.zero_add,Nat.reduceAdd,Nat.reduceSub,mComp,sFor,runs_bind,runs_pure,runs_ite,runs_asB,runs_asI,runs_newL,runs_getL,runs_setL,runs_mkTup,runs_fail,List.map_cons,List.map_nil,List.replicate,List.cons_append,List.nil_append,List.set_cons_succ,List.set_cons_zero,outD,seqO,mV,mK,mAnd,mOr,mNot,mIf,aNil,aCons,mTup,mLst,aConsD,mCall,mB1,mOp,mChain,oN,oS,mSl,mRev,mIsi,mIsi2,mMt,bV,bOp,bChain,bChain3,bNot,bAnd,bOr,bTrue,iR1,iR2,iSeq,iZip,gN,gIt,sNil,sCons,sEx,sRet,sIf,sSet,sAsg,sPar,sWhile,gTupD,gsCons,gsNil,List.length_cons,List.length_nil,Bool.not_true,Bool.not_false,Bool.false_eq_true,if_true,if_false,Bool.true_eq_false,rdV_0,rdV_1,rdV_2,rdV_3,rdV_4,rdV_5,rdV_6,rdV_7,rdV_8, lim3, true_and, modD, int2, ixD, get_last, Option.some.injEq, exists_eq_left', show (0 : Int) < 3 by decide, eu, ltD]
    exact ⟨k4.trans (Kp.grow k4.st _), trivial⟩
  · intro ys S4 sub k4
    have kp4 := kp3.trans k4
    obtain ⟨ts, tsub, rfl⟩ := List.sublist_map_iff.mp sub
    have w1 := WebOk.of_sub hn6 tsub
    have tl : (ts.map tupI).length ≤ lim := by have := w1.few; simp; unfold lim; omega
    have hr : -(2 ^ 62) ≤ (n : Int) ∧ (n : Int) ≤ (lim : Nat) := ⟨by omega, by unfold lim; omega⟩
    have rl : (rangeL 0 n).length ≤ lim := by simp only [rangeL, List.length_map, List.length_range]; unfold lim; omega
    have rr : rangeL 0 n = ((List.range n).map fun i : Nat => (0 + (i : Int))).map D.int := by unfold rangeL; rw [List.map_map]; rfl
    simp only [Nat.zero_add,Nat.reduceAdd,Nat.reduceSub,mComp,sFor,runs_bind,runs_pure,runs_ite,runs_asB,runs_asI,runs_newL,runs_getL,runs_setL,runs_mkTup,runs_fail,List.map_cons,List.map_nil,List.replicate,List.cons_append,List.nil_append,List.set_cons_succ,List.set_cons_zero,outD,seqO,mV,mK,mAnd,mOr,mNot,mIf,aNil,aCons,mTup,mLst,aConsD,mCall,mB1,mOp,mChain,oN,oS,mSl,mRev,mIsi,mIsi2,mMt,bV,bOp,bChain,bChain3,bNot,bAnd,bOr,bTrue,iR1,iR2,iSeq,iZip,gN,gIt,sNil,sCons,sEx,sRet,sIf,sSet,sAsg,sPar,sWhile,gTupD,gsCons,gsNil,List.length_cons,List.length_nil,Bool.not_true,Bool.not_false,Bool.false_eq_true,if_true,if_false,Bool.true_eq_false,rdV_0,rdV_1,rdV_2,rdV_3,rdV_4,rdV_5,rdV_6,rdV_7,rdV_8, tl, true_and, listRangeD, hr, and_self, Int.toNat_natCast, rl]
    have st5 := (Kp.grow kp4.st [ts.map tupI]).trans (Kp.grow (Kp.grow kp4.st _).st [rangeL 0 n])
    have rat : (S4 ++ [ts.map tupI] ++ [rangeL 0 n])[(S4 ++ [ts.map tupI]).length]? = some (((List.range n).map fun i : Nat => (0 + (i : Int))).map D.int) := by rw [← rr]; exact get_last
    refine r_mixed st5.st rat (by simp; omega) fun p ms S6 mlen pat plen k6 => ?_
    have kp6 := kp4.trans (st5.trans k6)
    have mlen' : ms.length = n := by rw [mlen]; simp
    have hk4 : k < S4.length := kp4.st.lt
    have tat : S6[S4.length]? = some (ts.map tupI) := by
      rw [k6.oth _ (by simp) (by omega), List.getElem?_append_left (by simp)]; exact get_last
    have fin : ∀ (q : Nat) (us : List (List Int)) (S' : Store), us.Sublist (pairsN n) → S'[q]? = some (us.map tupI) → Kp k S S' → runs (do let ds ← (do let x ← (do let ds ← (do let x ← (do let ds ← (do let x ← pure (D.lst q); let xs ← pure []; pure (x :: xs)); sortedD ds); let xs ← pure []; pure (x :: xs)); tupleD ds); let xs ← pure []; pure (x :: xs)); mkTup (D.int n :: ds)) S' Q := by
      intro q us S' hsub hq hkp
      have w := WebOk.of_sub hn6 hsub
      have h64 : us.length < 64 := by have := w.few; omega
      have ul : (us.map tupI).length ≤ lim := by have := w.few; simp; unfold lim; omega
      cases us with
      | nil =>
        have hq' : S'[q]? = some [] := hq
        simp only [Nat.zero_add,Nat.reduceAdd,Nat.reduceSub,mComp,sFor,runs_bind,runs_pure,runs_ite,runs_asB,runs_asI,runs_newL,runs_getL,runs_setL,runs_mkTup,runs_fail,List.map_cons,List.map_nil,List.replicate,List.cons_append,List.nil_append,List.set_cons_succ,List.set_cons_zero,outD,seqO,mV,mK,mAnd,mOr,mNot,mIf,aNil,aCons,mTup,mLst,aConsD,mCall,mB1,mOp,mChain,oN,oS,mSl,mRev,mIsi,mIsi2,mMt,bV,bOp,bChain,bChain3,bNot,bAnd,bOr,bTrue,iR1,iR2,iSeq,iZip,gN,gIt,sNil,sCons,sEx,sRet,sIf,sSet,sAsg,sPar,sWhile,gTupD,gsCons,gsNil,List.length_cons,List.length_nil,Bool.not_true,Bool.not_false,Bool.false_eq_true,if_true,if_false,Bool.true_eq_false,rdV_0,rdV_1,rdV_2,rdV_3,rdV_4,rdV_5,rdV_6,rdV_7,rdV_8, sortedD, hq', Option.some.injEq, exists_eq_left', intsOf, show ([] : List Int).length < 64 by decide, sortI, l0, lim2, true_and, tupleD, get_last]
        exact hQ n [] _ (by omega) (by omega) w (hkp.trans (Kp.grow hkp.st _))
      | cons u us =>
        have i0 : intsOf ((u :: us).map tupI) = none := rfl
        have h2 : two (u :: us) = true := by
          unfold two
          rw [List.all_eq_true]
          intro t ht
          obtain ⟨a, b, rfl, _⟩ := w.el t ht
          rfl
        have cond : (u :: us).length < 64 ∧ two (u :: us) = true := ⟨h64, h2⟩
        generalize hU : (u :: us) = U at *
        simp only [Nat.zero_add,Nat.reduceAdd,Nat.reduceSub,mComp,sFor,runs_bind,runs_pure,runs_ite,runs_asB,runs_asI,runs_newL,runs_getL,runs_setL,runs_mkTup,runs_fail,List.map_cons,List.map_nil,List.replicate,List.cons_append,List.nil_append,List.set_cons_succ,List.set_cons_zero,outD,seqO,mV,mK,mAnd,mOr,mNot,mIf,aNil,aCons,mTup,mLst,aConsD,mCall,mB1,mOp,mChain,oN,oS,mSl,mRev,mIsi,mIsi2,mMt,bV,bOp,bChain,bChain3,bNot,bAnd,bOr,bTrue,iR1,iR2,iSeq,iZip,gN,gIt,sNil,sCons,sEx,sRet,sIf,sSet,sAsg,sPar,sWhile,gTupD,gsCons,gsNil,List.length_cons,List.length_nil,Bool.not_true,Bool.not_false,Bool.false_eq_true,if_true,if_false,Bool.true_eq_false,rdV_0,rdV_1,rdV_2,rdV_3,rdV_4,rdV_5,rdV_6,rdV_7,rdV_8, sortedD, hq, Option.some.injEq, exists_eq_left', i0, rowsOf_map, sortRows, cond, and_self, sortT_ris w.ris, ul, lim2, true_and, tupleD, get_last]
        exact hQ n U _ (by omega) (by omega) w (hkp.trans (Kp.grow hkp.st _))
    simp only [Nat.zero_add,Nat.reduceAdd,Nat.reduceSub,mComp,sFor,runs_bind,runs_pure,runs_ite,runs_asB,runs_asI,runs_newL,runs_getL,runs_setL,runs_mkTup,runs_fail,List.map_cons,List.map_nil,List.replicate,List.cons_append,List.nil_append,List.set_cons_succ,List.set_cons_zero,outD,seqO,mV,mK,mAnd,mOr,mNot,mIf,aNil,aCons,mTup,mLst,aConsD,mCall,mB1,mOp,mChain,oN,oS,mSl,mRev,mIsi,mIsi2,mMt,bV,bOp,bChain,bChain3,bNot,bAnd,bOr,bTrue,iR1,iR2,iSeq,iZip,gN,gIt,sNil,sCons,sEx,sRet,sIf,sSet,sAsg,sPar,sWhile,gTupD,gsCons,gsNil,List.length_cons,List.length_nil,Bool.not_true,Bool.not_false,Bool.false_eq_true,if_true,if_false,Bool.true_eq_false,rdV_0,rdV_1,rdV_2,rdV_3,rdV_4,rdV_5,rdV_6,rdV_7,rdV_8, gtD, int2]
    by_cases hw : (2 : Int) < way
    · simp only [hw, decide_true, Nat.zero_add,Nat.reduceAdd,Nat.reduceSub,mComp,sFor,runs_bind,runs_pure,runs_ite,runs_asB,runs_asI,runs_newL,runs_getL,runs_setL,runs_mkTup,runs_fail,List.map_cons,List.map_nil,List.replicate,List.cons_append,List.nil_append,List.set_cons_succ,List.set_cons_zero,outD,seqO,mV,mK,mAnd,mOr,mNot,mIf,aNil,aCons,mTup,mLst,aConsD,mCall,mB1,mOp,mChain,oN,oS,mSl,mRev,mIsi,mIsi2,mMt,bV,bOp,bChain,bChain3,bNot,bAnd,bOr,bTrue,iR1,iR2,iSeq,iZip,gN,gIt,sNil,sCons,sEx,sRet,sIf,sSet,sAsg,sPar,sWhile,gTupD,gsCons,gsNil,List.length_cons,List.length_nil,Bool.not_true,Bool.not_false,Bool.false_eq_true,if_true,if_false,Bool.true_eq_false,rdV_0,rdV_1,rdV_2,rdV_3,rdV_4,rdV_5,rdV_6,rdV_7,rdV_8, l0, true_and]
      have hr2 : -(2 ^ 62) ≤ (1 : Int) ∧ (1 : Int) < 2 ^ 62 ∧ -(2 ^ 62) ≤ (n : Int) ∧ (n : Int) < 2 ^ 62 := ⟨by decide, by decide, by omega, by omega⟩
      simp only [rangeI2, hr2, and_self, Nat.zero_add,Nat.reduceAdd,Nat.reduceSub,mComp,sFor,runs_bind,runs_pure,runs_ite,runs_asB,runs_asI,runs_newL,runs_getL,runs_setL,runs_mkTup,runs_fail,List.map_cons,List.map_nil,List.replicate,List.cons_append,List.nil_append,List.set_cons_succ,List.set_cons_zero,outD,seqO,mV,mK,mAnd,mOr,mNot,mIf,aNil,aCons,mTup,mLst,aConsD,mCall,mB1,mOp,mChain,oN,oS,mSl,mRev,mIsi,mIsi2,mMt,bV,bOp,bChain,bChain3,bNot,bAnd,bOr,bTrue,iR1,iR2,iSeq,iZip,gN,gIt,sNil,sCons,sEx,sRet,sIf,sSet,sAsg,sPar,sWhile,gTupD,gsCons,gsNil,List.length_cons,List.length_nil,Bool.not_true,Bool.not_false,Bool.false_eq_true,if_true,if_false,Bool.true_eq_false,rdV_0,rdV_1,rdV_2,rdV_3,rdV_4,rdV_5,rdV_6,rdV_7,rdV_8]
      have hp6 : p < S6.length := (List.getElem?_eq_some_iff.mp pat).1
      have hk6 : k < S6.length := kp6.st.lt
      have hpk : p ≠ k := by simp at plen; omega
      refine runs_for0 (fun ds ρ S' => ∃ pre post rs x, (List.range ((n : Int) - 1).toNat) = pre ++ post ∧ ds = post.map (fun i : Nat => D.int (1 + (i : Nat))) ∧ ρ = [some (.lst k), some (.int 6), some (.int n), some (.int way), some (.lst S6.length), some (.lst p), x, none] ∧ rs.length = pre.length ∧
        S6.length < S'.length ∧ S'[S6.length]? = some (rs.map tupI) ∧ S'[p]? = some (ms.map D.int) ∧ Kp k S S') ⟨[], _, [], none, rfl, rfl, rfl, rfl, by simp, get_last, by rw [List.getElem?_append_left hp6]; exact pat, kp6.trans (Kp.grow kp6.st _)⟩ ?_ ?_
      · rintro ρ S7 ⟨pre, post, rs, x, e, e0, rfl, rlen, q1, q2, q3, kp7⟩
        have hpost : post = [] := by simpa using e0.symm
        subst hpost
        have plen7 : pre.length ≤ 6 := by have := congrArg List.length e; simp at this; omega
        have rl7 : rs.length ≤ 7 := by omega
        have tail : ∀ (S8 : Store) (rs8 : List (List Int)), S6.length < S8.length → S8[S6.length]? = some (rs8.map tupI) → Kp k S S8 → runs (do
            let o ← sCons (sSet 7 (mComp (iSeq (mCall F__law_pairs (aCons (mV 2) aNil))) (gN 0) m__law_web_t4 m__law_web_e5 [none, some 0])) (sSet 4 (mComp (iSeq (mCall F__law_pairs (aCons (mV 2) aNil))) (gN 0) m__law_web_t6 m__law_web_e7 [none, some 4, some 7]))
              [some (.lst k), some (.int 6), some (.int n), some (.int way), some (.lst S6.length), some (.lst p), x, none]
            seqO o (sRet (mTup (aCons (mV 2) (aCons (mB1 tupleD (mB1 sortedD (mV 4))) aNil))))) S8 (fun o S' => runs (outD o) S' Q) := by
          intro S8 rs8 q1 q2 kp8
          have hk8 : k < S8.length := kp8.st.lt
          simp only [Nat.zero_add,Nat.reduceAdd,Nat.reduceSub,mComp,sFor,runs_bind,runs_pure,runs_ite,runs_asB,runs_asI,runs_newL,runs_getL,runs_setL,runs_mkTup,runs_fail,List.map_cons,List.map_nil,List.replicate,List.cons_append,List.nil_append,List.set_cons_succ,List.set_cons_zero,outD,seqO,mV,mK,mAnd,mOr,mNot,mIf,aNil,aCons,mTup,mLst,aConsD,mCall,mB1,mOp,mChain,oN,oS,mSl,mRev,mIsi,mIsi2,mMt,bV,bOp,bChain,bChain3,bNot,bAnd,bOr,bTrue,iR1,iR2,iSeq,iZip,gN,gIt,sNil,sCons,sEx,sRet,sIf,sSet,sAsg,sPar,sWhile,gTupD,gsCons,gsNil,List.length_cons,List.length_nil,Bool.not_true,Bool.not_false,Bool.false_eq_true,if_true,if_false,Bool.true_eq_false,rdV_0,rdV_1,rdV_2,rdV_3,rdV_4,rdV_5,rdV_6,rdV_7,rdV_8]
          refine r_pairs (by omega) fun S9 a1 a2 a3 => ?_
          have kp9 := kp8.trans (Kp.mk0 kp8.st (Nat.le_of_lt a1) a2)
          simp only [seqI, Nat.zero_add,Nat.reduceAdd,Nat.reduceSub,mComp,sFor,runs_bind,runs_pure,runs_ite,runs_asB,runs_asI,runs_newL,runs_getL,runs_setL,runs_mkTup,runs_fail,List.map_cons,List.map_nil,List.replicate,List.cons_append,List.nil_append,List.set_cons_succ,List.set_cons_zero,outD,seqO,mV,mK,mAnd,mOr,mNot,mIf,aNil,aCons,mTup,mLst,aConsD,mCall,mB1,mOp,mChain,oN,oS,mSl,mRev,mIsi,mIsi2,mMt,bV,bOp,bChain,bChain3,bNot,bAnd,bOr,bTrue,iR1,iR2,iSeq,iZip,gN,gIt,sNil,sCons,sEx,sRet,sIf,sSet,sAsg,sPar,sWhile,gTupD,gsCons,gsNil,List.length_cons,List.length_nil,Bool.not_true,Bool.not_false,Bool.false_eq_true,if_true,if_false,Bool.true_eq_false,rdV_0,rdV_1,rdV_2,rdV_3,rdV_4,rdV_5,rdV_6,rdV_7,rdV_8, a3, Option.some.injEq, exists_eq_left']
          refine runs_comp_sub (fun ρ => ∃ x, ρ = [x, some (.lst k)]) pl kp9.st a3 (by omega) ⟨none, rfl⟩ ?_ ?_
          · rintro d hd ρ S' ⟨x, rfl⟩ kp
            unfold m__law_web_t4 m__law_web_e5
            simp only [Nat.zero_add,Nat.reduceAdd,Nat.reduceSub,mComp,sFor,runs_bind,runs_pure,runs_ite,runs_asB,runs_asI,runs_newL,runs_getL,runs_setL,runs_mkTup,runs_fail,List.map_cons,List.map_nil,List.replicate,List.cons_append,List.nil_append,List.set_cons_succ,List.set_cons_zero,outD,seqO,mV,mK,mAnd,mOr,mNot,mIf,aNil,aCons,mTup,mLst,aConsD,mCall,mB1,mOp,mChain,oN,oS,mSl,mRev,mIsi,mIsi2,mMt,bV,bOp,bChain,bChain3,bNot,bAnd,bOr,bTrue,iR1,iR2,iSeq,iZip,gN,gIt,sNil,sCons,sEx,sRet,sIf,sSet,sAsg,sPar,sWhile,gTupD,gsCons,gsNil,List.length_cons,List.length_nil,Bool.not_true,Bool.not_false,Bool.false_eq_true,if_true,if_false,Bool.true_eq_false,rdV_0,rdV_1,rdV_2,rdV_3,rdV_4,rdV_5,rdV_6,rdV_7,rdV_8]
            refine ⟨trivial, ⟨_, rfl⟩, ?_⟩
            refine r_takeK kp.st (by decide) (by decide) fun j S10 j0 j1 e4 k4 => ?_
            simp only [Nat.zero_add,Nat.reduceAdd,Nat.reduceSub,mComp,sFor,runs_bind,runs_pure,runs_ite,runs_asB,runs_asI,runs_newL,runs_getL,runs_setL,runs_mkTup,runs_fail,List.map_cons,List.map_nil,List.replicate,List.cons_append,List.nil_append,List.set_cons_succ,List.set_cons_zero,outD,seqO,mV,mK,mAnd,mOr,mNot,mIf,aNil,aCons,mTup,mLst,aConsD,mCall,mB1,mOp,mChain,oN,oS,mSl,mRev,mIsi,mIsi2,mMt,bV,bOp,bChain,bChain3,bNot,bAnd,bOr,bTrue,iR1,iR2,iSeq,iZip,gN,gIt,sNil,sCons,sEx,sRet,sIf,sSet,sAsg,sPar,sWhile,gTupD,gsCons,gsNil,List.length_cons,List.length_nil,Bool.not_true,Bool.not_false,Bool.false_eq_true,if_true,if_false,Bool.true_eq_false,rdV_0,rdV_1,rdV_2,rdV_3,rdV_4,rdV_5,rdV_6,rdV_7,rdV_8, eq_int]
            exact ⟨k4, trivial, trivial⟩
          · intro ys S10 sub k10
            obtain ⟨os, osub, rfl⟩ := List.sublist_map_iff.mp sub
            have kp10 := kp9.trans k10
            have ol : (os.map tupI).length ≤ lim := by have := osub.length_le; have := pairs_len (n := n) (by omega); simp; unfold lim; omega
            have b2 : S10[S6.length]? = some (rs8.map tupI) := by rw [k10.oth _ (by omega) (by omega), a2 _ q1]; exact q2
            have hl10 := k10.len
            simp only [Nat.zero_add,Nat.reduceAdd,Nat.reduceSub,mComp,sFor,runs_bind,runs_pure,runs_ite,runs_asB,runs_asI,runs_newL,runs_getL,runs_setL,runs_mkTup,runs_fail,List.map_cons,List.map_nil,List.replicate,List.cons_append,List.nil_append,List.set_cons_succ,List.set_cons_zero,outD,seqO,mV,mK,mAnd,mOr,mNot,mIf,aNil,aCons,mTup,mLst,aConsD,mCall,mB1,mOp,mChain,oN,oS,mSl,mRev,mIsi,mIsi2,mMt,bV,bOp,bChain,bChain3,bNot,bAnd,bOr,bTrue,iR1,iR2,iSeq,iZip,gN,gIt,sNil,sCons,sEx,sRet,sIf,sSet,sAsg,sPar,sWhile,gTupD,gsCons,gsNil,List.length_cons,List.length_nil,Bool.not_true,Bool.not_false,Bool.false_eq_true,if_true,if_false,Bool.true_eq_false,rdV_0,rdV_1,rdV_2,rdV_3,rdV_4,rdV_5,rdV_6,rdV_7,rdV_8, ol, true_and]
            have kp11 := kp10.trans (Kp.grow kp10.st [os.map tupI])
            refine r_pairs (by omega) fun S12 c1 c2 c3 => ?_
            have kp12 := kp11.trans (Kp.mk0 kp11.st (Nat.le_of_lt c1) c2)
            have d2 : S12[S6.length]? = some (rs8.map tupI) := by rw [c2 _ (by simp; omega), List.getElem?_append_left (by omega)]; exact b2
            have d3 : S12[S10.length]? = some (os.map tupI) := by rw [c2 _ (by simp)]; exact get_last
            have hk10 : k < S10.length := kp10.st.lt
            simp only [seqI, Nat.zero_add,Nat.reduceAdd,Nat.reduceSub,mComp,sFor,runs_bind,runs_pure,runs_ite,runs_asB,runs_asI,runs_newL,runs_getL,runs_setL,runs_mkTup,runs_fail,List.map_cons,List.map_nil,List.replicate,List.cons_append,List.nil_append,List.set_cons_succ,List.set_cons_zero,outD,seqO,mV,mK,mAnd,mOr,mNot,mIf,aNil,aCons,mTup,mLst,aConsD,mCall,mB1,mOp,mChain,oN,oS,mSl,mRev,mIsi,mIsi2,mMt,bV,bOp,bChain,bChain3,bNot,bAnd,bOr,bTrue,iR1,iR2,iSeq,iZip,gN,gIt,sNil,sCons,sEx,sRet,sIf,sSet,sAsg,sPar,sWhile,gTupD,gsCons,gsNil,List.length_cons,List.length_nil,Bool.not_true,Bool.not_false,Bool.false_eq_true,if_true,if_false,Bool.true_eq_false,rdV_0,rdV_1,rdV_2,rdV_3,rdV_4,rdV_5,rdV_6,rdV_7,rdV_8, c3, Option.some.injEq, exists_eq_left']
            have l12 : S6.length < S12.length := by simp at c1; omega
            have l13 : S10.length < S12.length := by simp at c1; omega
            refine runs_comp_sub (fun ρ => ∃ x, ρ = [x, some (.lst S6.length), some (.lst S10.length)]) pl kp12.st c3 (by simp; omega) ⟨none, rfl⟩ ?_ ?_
            · rintro d hd ρ S' ⟨x, rfl⟩ kp
              obtain ⟨r, hr', rfl⟩ := List.mem_map.mp hd
              unfold m__law_web_t6 m__law_web_e7
              simp only [Nat.zero_add,Nat.reduceAdd,Nat.reduceSub,mComp,sFor,runs_bind,runs_pure,runs_ite,runs_asB,runs_asI,runs_newL,runs_getL,runs_setL,runs_mkTup,runs_fail,List.map_cons,List.map_nil,List.replicate,List.cons_append,List.nil_append,List.set_cons_succ,List.set_cons_zero,outD,seqO,mV,mK,mAnd,mOr,mNot,mIf,aNil,aCons,mTup,mLst,aConsD,mCall,mB1,mOp,mChain,oN,oS,mSl,mRev,mIsi,mIsi2,mMt,bV,bOp,bChain,bChain3,bNot,bAnd,bOr,bTrue,iR1,iR2,iSeq,iZip,gN,gIt,sNil,sCons,sEx,sRet,sIf,sSet,sAsg,sPar,sWhile,gTupD,gsCons,gsNil,List.length_cons,List.length_nil,Bool.not_true,Bool.not_false,Bool.false_eq_true,if_true,if_false,Bool.true_eq_false,rdV_0,rdV_1,rdV_2,rdV_3,rdV_4,rdV_5,rdV_6,rdV_7,rdV_8]
              refine ⟨trivial, ⟨_, rfl⟩, ?_⟩
              refine in_rows (by rw [kp.oth _ l12 (by omega)]; exact d2) fun b1 => ?_
              refine in_rows (by rw [kp.oth _ l13 (by omega)]; exact d3) fun b2 => ?_
              refine ne_bl fun b3 => ?_
              simp only [Nat.zero_add,Nat.reduceAdd,Nat.reduceSub,mComp,sFor,runs_bind,runs_pure,runs_ite,runs_asB,runs_asI,runs_newL,runs_getL,runs_setL,runs_mkTup,runs_fail,List.map_cons,List.map_nil,List.replicate,List.cons_append,List.nil_append,List.set_cons_succ,List.set_cons_zero,outD,seqO,mV,mK,mAnd,mOr,mNot,mIf,aNil,aCons,mTup,mLst,aConsD,mCall,mB1,mOp,mChain,oN,oS,mSl,mRev,mIsi,mIsi2,mMt,bV,bOp,bChain,bChain3,bNot,bAnd,bOr,bTrue,iR1,iR2,iSeq,iZip,gN,gIt,sNil,sCons,sEx,sRet,sIf,sSet,sAsg,sPar,sWhile,gTupD,gsCons,gsNil,List.length_cons,List.length_nil,Bool.not_true,Bool.not_false,Bool.false_eq_true,if_true,if_false,Bool.true_eq_false,rdV_0,rdV_1,rdV_2,rdV_3,rdV_4,rdV_5,rdV_6,rdV_7,rdV_8]
              exact ⟨Kp.refl kp.st, trivial, trivial⟩
            · intro zs S14 sub2 k14
              obtain ⟨us, usub, rfl⟩ := List.sublist_map_iff.mp sub2
              have kp14 := kp12.trans k14
              have ul : (us.map tupI).length ≤ lim := by have := usub.length_le; have := pairs_len (n := n) (by omega); simp; unfold lim; omega
              simp only [Nat.zero_add,Nat.reduceAdd,Nat.reduceSub,mComp,sFor,runs_bind,runs_pure,runs_ite,runs_asB,runs_asI,runs_newL,runs_getL,runs_setL,runs_mkTup,runs_fail,List.map_cons,List.map_nil,List.replicate,List.cons_append,List.nil_append,List.set_cons_succ,List.set_cons_zero,outD,seqO,mV,mK,mAnd,mOr,mNot,mIf,aNil,aCons,mTup,mLst,aConsD,mCall,mB1,mOp,mChain,oN,oS,mSl,mRev,mIsi,mIsi2,mMt,bV,bOp,bChain,bChain3,bNot,bAnd,bOr,bTrue,iR1,iR2,iSeq,iZip,gN,gIt,sNil,sCons,sEx,sRet,sIf,sSet,sAsg,sPar,sWhile,gTupD,gsCons,gsNil,List.length_cons,List.length_nil,Bool.not_true,Bool.not_false,Bool.false_eq_true,if_true,if_false,Bool.true_eq_false,rdV_0,rdV_1,rdV_2,rdV_3,rdV_4,rdV_5,rdV_6,rdV_7,rdV_8, ul, true_and]
              have := fin S14.length us (S14 ++ [us.map tupI]) usub get_last (kp14.trans (Kp.grow kp14.st _))
              simp only [Nat.zero_add,Nat.reduceAdd,Nat.reduceSub,mComp,sFor,runs_bind,runs_pure,runs_ite,runs_asB,runs_asI,runs_newL,runs_getL,runs_setL,runs_mkTup,runs_fail,List.map_cons,List.map_nil,List.replicate,List.cons_append,List.nil_append,List.set_cons_succ,List.set_cons_zero,outD,seqO,mV,mK,mAnd,mOr,mNot,mIf,aNil,aCons,mTup,mLst,aConsD,mCall,mB1,mOp,mChain,oN,oS,mSl,mRev,mIsi,mIsi2,mMt,bV,bOp,bChain,bChain3,bNot,bAnd,bOr,bTrue,iR1,iR2,iSeq,iZip,gN,gIt,sNil,sCons,sEx,sRet,sIf,sSet,sAsg,sPar,sWhile,gTupD,gsCons,gsNil,List.length_cons,List.length_nil,Bool.not_true,Bool.not_false,Bool.false_eq_true,if_true,if_false,Bool.true_eq_false,rdV_0,rdV_1,rdV_2,rdV_3,rdV_4,rdV_5,rdV_6,rdV_7,rdV_8] at this
              exact this
        simp only [Nat.zero_add,Nat.reduceAdd,Nat.reduceSub,mComp,sFor,runs_bind,runs_pure,runs_ite,runs_asB,runs_asI,runs_newL,runs_getL,runs_setL,runs_mkTup,runs_fail,List.map_cons,List.map_nil,List.replicate,List.cons_append,List.nil_append,List.set_cons_succ,List.set_cons_zero,outD,seqO,mV,mK,mAnd,mOr,mNot,mIf,aNil,aCons,mTup,mLst,aConsD,mCall,mB1,mOp,mChain,oN,oS,mSl,mRev,mIsi,mIsi2,mMt,bV,bOp,bChain,bChain3,bNot,bAnd,bOr,bTrue,iR1,iR2,iSeq,iZip,gN,gIt,sNil,sCons,sEx,sRet,sIf,sSet,sAsg,sPar,sWhile,gTupD,gsCons,gsNil,List.length_cons,List.length_nil,Bool.not_true,Bool.not_false,Bool.false_eq_true,if_true,if_false,Bool.true_eq_false,rdV_0,rdV_1,rdV_2,rdV_3,rdV_4,rdV_5,rdV_6,rdV_7,rdV_8, eq_int, gtD, int2]
        simp only [Nat.zero_add,Nat.reduceAdd,Nat.reduceSub,mComp,sFor,runs_bind,runs_pure,runs_ite,runs_asB,runs_asI,runs_newL,runs_getL,runs_setL,runs_mkTup,runs_fail,List.map_cons,List.map_nil,List.replicate,List.cons_append,List.nil_append,List.set_cons_succ,List.set_cons_zero,outD,seqO,mV,mK,mAnd,mOr,mNot,mIf,aNil,aCons,mTup,mLst,aConsD,mCall,mB1,mOp,mChain,oN,oS,mSl,mRev,mIsi,mIsi2,mMt,bV,bOp,bChain,bChain3,bNot,bAnd,bOr,bTrue,iR1,iR2,iSeq,iZip,gN,gIt,sNil,sCons,sEx,sRet,sIf,sSet,sAsg,sPar,sWhile,gTupD,gsCons,gsNil,List.length_cons,List.length_nil,Bool.not_true,Bool.not_false,Bool.false_eq_true,if_true,if_false,Bool.true_eq_false,rdV_0,rdV_1,rdV_2,rdV_3,rdV_4,rdV_5,rdV_6,rdV_7,rdV_8] at tail
        by_cases c4 : way = 4
        · simp only [c4, decide_true, Nat.zero_add,Nat.reduceAdd,Nat.reduceSub,mComp,sFor,runs_bind,runs_pure,runs_ite,runs_asB,runs_asI,runs_newL,runs_getL,runs_setL,runs_mkTup,runs_fail,List.map_cons,List.map_nil,List.replicate,List.cons_append,List.nil_append,List.set_cons_succ,List.set_cons_zero,outD,seqO,mV,mK,mAnd,mOr,mNot,mIf,aNil,aCons,mTup,mLst,aConsD,mCall,mB1,mOp,mChain,oN,oS,mSl,mRev,mIsi,mIsi2,mMt,bV,bOp,bChain,bChain3,bNot,bAnd,bOr,bTrue,iR1,iR2,iSeq,iZip,gN,gIt,sNil,sCons,sEx,sRet,sIf,sSet,sAsg,sPar,sWhile,gTupD,gsCons,gsNil,List.length_cons,List.length_nil,Bool.not_true,Bool.not_false,Bool.false_eq_true,if_true,if_false,Bool.true_eq_false,rdV_0,rdV_1,rdV_2,rdV_3,rdV_4,rdV_5,rdV_6,rdV_7,rdV_8]
          by_cases c2 : (2 : Int) < n
          · simp only [c2, decide_true, Nat.zero_add,Nat.reduceAdd,Nat.reduceSub,mComp,sFor,runs_bind,runs_pure,runs_ite,runs_asB,runs_asI,runs_newL,runs_getL,runs_setL,runs_mkTup,runs_fail,List.map_cons,List.map_nil,List.replicate,List.cons_append,List.nil_append,List.set_cons_succ,List.set_cons_zero,outD,seqO,mV,mK,mAnd,mOr,mNot,mIf,aNil,aCons,mTup,mLst,aConsD,mCall,mB1,mOp,mChain,oN,oS,mSl,mRev,mIsi,mIsi2,mMt,bV,bOp,bChain,bChain3,bNot,bAnd,bOr,bTrue,iR1,iR2,iSeq,iZip,gN,gIt,sNil,sCons,sEx,sRet,sIf,sSet,sAsg,sPar,sWhile,gTupD,gsCons,gsNil,List.length_cons,List.length_nil,Bool.not_true,Bool.not_false,Bool.false_eq_true,if_true,if_false,Bool.true_eq_false,rdV_0,rdV_1,rdV_2,rdV_3,rdV_4,rdV_5,rdV_6,rdV_7,rdV_8, asL]
            obtain ⟨u1, eu1⟩ := atInts (ns := ms) (i := 0) (by decide) (by omega)
            obtain ⟨u2, eu2⟩ := atInts (ns := ms) (i := (n : Int) - 1) (by omega) (by omega)
            simp only [ixD, q3, Option.some.injEq, exists_eq_left', eu1, eu2, subD, int2, Nat.zero_add,Nat.reduceAdd,Nat.reduceSub,mComp,sFor,runs_bind,runs_pure,runs_ite,runs_asB,runs_asI,runs_newL,runs_getL,runs_setL,runs_mkTup,runs_fail,List.map_cons,List.map_nil,List.replicate,List.cons_append,List.nil_append,List.set_cons_succ,List.set_cons_zero,outD,seqO,mV,mK,mAnd,mOr,mNot,mIf,aNil,aCons,mTup,mLst,aConsD,mCall,mB1,mOp,mChain,oN,oS,mSl,mRev,mIsi,mIsi2,mMt,bV,bOp,bChain,bChain3,bNot,bAnd,bOr,bTrue,iR1,iR2,iSeq,iZip,gN,gIt,sNil,sCons,sEx,sRet,sIf,sSet,sAsg,sPar,sWhile,gTupD,gsCons,gsNil,List.length_cons,List.length_nil,Bool.not_true,Bool.not_false,Bool.false_eq_true,if_true,if_false,Bool.true_eq_false,rdV_0,rdV_1,rdV_2,rdV_3,rdV_4,rdV_5,rdV_6,rdV_7,rdV_8]
            refine ⟨lim2, ?_⟩
            refine r_app q2 q3 (by omega) (by omega) (by omega) (by have := kp6.len; omega) kp7 fun r S8 z1 z2 z3 z4 => ?_
            subst c4
            exact tail S8 _ (by omega) z2 z4
          · simp only [c2, decide_false, Nat.zero_add,Nat.reduceAdd,Nat.reduceSub,mComp,sFor,runs_bind,runs_pure,runs_ite,runs_asB,runs_asI,runs_newL,runs_getL,runs_setL,runs_mkTup,runs_fail,List.map_cons,List.map_nil,List.replicate,List.cons_append,List.nil_append,List.set_cons_succ,List.set_cons_zero,outD,seqO,mV,mK,mAnd,mOr,mNot,mIf,aNil,aCons,mTup,mLst,aConsD,mCall,mB1,mOp,mChain,oN,oS,mSl,mRev,mIsi,mIsi2,mMt,bV,bOp,bChain,bChain3,bNot,bAnd,bOr,bTrue,iR1,iR2,iSeq,iZip,gN,gIt,sNil,sCons,sEx,sRet,sIf,sSet,sAsg,sPar,sWhile,gTupD,gsCons,gsNil,List.length_cons,List.length_nil,Bool.not_true,Bool.not_false,Bool.false_eq_true,if_true,if_false,Bool.true_eq_false,rdV_0,rdV_1,rdV_2,rdV_3,rdV_4,rdV_5,rdV_6,rdV_7,rdV_8]
            subst c4
            exact tail S7 rs q1 q2 kp7
        · simp only [c4, decide_false, Nat.zero_add,Nat.reduceAdd,Nat.reduceSub,mComp,sFor,runs_bind,runs_pure,runs_ite,runs_asB,runs_asI,runs_newL,runs_getL,runs_setL,runs_mkTup,runs_fail,List.map_cons,List.map_nil,List.replicate,List.cons_append,List.nil_append,List.set_cons_succ,List.set_cons_zero,outD,seqO,mV,mK,mAnd,mOr,mNot,mIf,aNil,aCons,mTup,mLst,aConsD,mCall,mB1,mOp,mChain,oN,oS,mSl,mRev,mIsi,mIsi2,mMt,bV,bOp,bChain,bChain3,bNot,bAnd,bOr,bTrue,iR1,iR2,iSeq,iZip,gN,gIt,sNil,sCons,sEx,sRet,sIf,sSet,sAsg,sPar,sWhile,gTupD,gsCons,gsNil,List.length_cons,List.length_nil,Bool.not_true,Bool.not_false,Bool.false_eq_true,if_true,if_false,Bool.true_eq_false,rdV_0,rdV_1,rdV_2,rdV_3,rdV_4,rdV_5,rdV_6,rdV_7,rdV_8]
          exact tail S7 rs q1 q2 kp7
      · rintro d ds ρ S7 ⟨pre, post, rs, x, e, e0, rfl, rlen, q1, q2, q3, kp7⟩
        match post, e0 with
        | [], e0 => cases e0
        | i :: post, e0 =>
          simp only [List.map_cons, List.cons.injEq] at e0
          obtain ⟨rfl, rfl⟩ := e0
          have hi : i < ((n : Int) - 1).toNat := List.mem_range.mp (by rw [e]; simp)
          have pl7 : pre.length ≤ 6 := by have := congrArg List.length e; simp at this; omega
          unfold m__law_web_b3
          have c8 : CDiv (1 + (i : Int)) 2 := ⟨by decide, by decide⟩
          obtain ⟨u1, eu1⟩ := atInts (ns := ms) (i := 1 + (i : Int)) (by omega) (by omega)
          obtain ⟨v4, ev4, hv4⟩ := at4 (a := 1 + (i : Int) - 1) (b := 1 + (i : Int) - 1) (c := 0) (d := (1 + (i : Int)) / 2) (j := way - 3) (by omega) (by omega)
          obtain ⟨u2, eu2⟩ := atInts (ns := ms) (i := v4) (by omega) (by omega)
          have q3' : ∀ xs, (S7 ++ [xs])[p]? = some (ms.map D.int) := fun xs => by rw [List.getElem?_append_left (by omega)]; exact q3
          have q2' : ∀ xs, (S7 ++ [xs])[S6.length]? = some (rs.map tupI) := fun xs => by rw [List.getElem?_append_left q1]; exact q2
          simp only [Nat.zero_add,Nat.reduceAdd,Nat.reduceSub,mComp,sFor,runs_bind,runs_pure,runs_ite,runs_asB,runs_asI,runs_newL,runs_getL,runs_setL,runs_mkTup,runs_fail,List.map_cons,List.map_nil,List.replicate,List.cons_append,List.nil_append,List.set_cons_succ,List.set_cons_zero,outD,seqO,mV,mK,mAnd,mOr,mNot,mIf,aNil,aCons,mTup,mLst,aConsD,mCall,mB1,mOp,mChain,oN,oS,mSl,mRev,mIsi,mIsi2,mMt,bV,bOp,bChain,bChain3,bNot,bAnd,bOr,bTrue,iR1,iR2,iSeq,iZip,gN,gIt,sNil,sCons,sEx,sRet,sIf,sSet,sAsg,sPar,sWhile,gTupD,gsCons,gsNil,List.length_cons,List.length_nil,Bool.not_true,Bool.not_false,Bool.false_eq_true,if_true,if_false,Bool.true_eq_false,rdV_0,rdV_1,rdV_2,rdV_3,rdV_4,rdV_5,rdV_6,rdV_7,rdV_8, asL, ixD, q3, q3', Option.some.injEq, exists_eq_left', eu1, subD, fdivD, int2, c8, lim4, lim2, true_and, get_last, ev4, eu2]
          refine r_app (S' := S7 ++ [[D.int (1 + (i : Int) - 1), D.int (1 + (i : Int) - 1), D.int 0, D.int ((1 + (i : Int)) / 2)]]) (q2' _) (q3' _) (by omega) (by omega) (by omega) (by have := kp6.len; omega) (kp7.trans (Kp.grow kp7.st _)) fun r S8 z1 z2 z3 z4 => ?_
          refine ⟨pre ++ [i], post, rs ++ [r], some (.int (1 + (i : Int))), by rw [e]; simp, rfl, rfl, by simp [rlen], by simp at z1; omega, z2, z3, z4⟩
    · simp only [hw, decide_false, Nat.zero_add,Nat.reduceAdd,Nat.reduceSub,mComp,sFor,runs_bind,runs_pure,runs_ite,runs_asB,runs_asI,runs_newL,runs_getL,runs_setL,runs_mkTup,runs_fail,List.map_cons,List.map_nil,List.replicate,List.cons_append,List.nil_append,List.set_cons_succ,List.set_cons_zero,outD,seqO,mV,mK,mAnd,mOr,mNot,mIf,aNil,aCons,mTup,mLst,aConsD,mCall,mB1,mOp,mChain,oN,oS,mSl,mRev,mIsi,mIsi2,mMt,bV,bOp,bChain,bChain3,bNot,bAnd,bOr,bTrue,iR1,iR2,iSeq,iZip,gN,gIt,sNil,sCons,sEx,sRet,sIf,sSet,sAsg,sPar,sWhile,gTupD,gsCons,gsNil,List.length_cons,List.length_nil,Bool.not_true,Bool.not_false,Bool.false_eq_true,if_true,if_false,Bool.true_eq_false,rdV_0,rdV_1,rdV_2,rdV_3,rdV_4,rdV_5,rdV_6,rdV_7,rdV_8]
      have := fin S4.length ts S6 tsub tat kp6
      simp only [Nat.zero_add,Nat.reduceAdd,Nat.reduceSub,mComp,sFor,runs_bind,runs_pure,runs_ite,runs_asB,runs_asI,runs_newL,runs_getL,runs_setL,runs_mkTup,runs_fail,List.map_cons,List.map_nil,List.replicate,List.cons_append,List.nil_append,List.set_cons_succ,List.set_cons_zero,outD,seqO,mV,mK,mAnd,mOr,mNot,mIf,aNil,aCons,mTup,mLst,aConsD,mCall,mB1,mOp,mChain,oN,oS,mSl,mRev,mIsi,mIsi2,mMt,bV,bOp,bChain,bChain3,bNot,bAnd,bOr,bTrue,iR1,iR2,iSeq,iZip,gN,gIt,sNil,sCons,sEx,sRet,sIf,sSet,sAsg,sPar,sWhile,gTupD,gsCons,gsNil,List.length_cons,List.length_nil,Bool.not_true,Bool.not_false,Bool.false_eq_true,if_true,if_false,Bool.true_eq_false,rdV_0,rdV_1,rdV_2,rdV_3,rdV_4,rdV_5,rdV_6,rdV_7,rdV_8] at this
      exact this
end W
end
section
set_option maxRecDepth 100000
set_option maxHeartbeats 4000000
namespace W
open PySem PySem.Spec PyProof.Rows L2 S3 S4
theorem sortU_mem {t : List Int} {l : List (List Int)} : t ∈ sortU l ↔ t ∈ l := by
  unfold sortU
  rw [(sortT_perm _).mem_iff, dedup_mem]
theorem dedup_len : ∀ l : List (List Int), (dedupT l).length ≤ l.length
  | [] => Nat.le_refl _
  | x :: r => by
    unfold dedupT
    have := dedup_len r
    split
    · simp; omega
    · simp; omega
theorem sortU_len (l : List (List Int)) : (sortU l).length ≤ l.length := by
  unfold sortU
  rw [(sortT_perm _).length_eq]; exact dedup_len l
theorem sortU_ris (l : List (List Int)) : (sortU l).Pairwise fun a b => HT.lexLt a b = true := by
  have h1 := sortT_sorted (dedupT l)
  have h2 : (sortU l).Nodup := (List.Perm.nodup_iff (sortT_perm _)).mpr (dedup_nd l)
  unfold sortU at h2 ⊢
  generalize sortT (dedupT l) = s at h1 h2
  induction s with
  | nil => exact .nil
  | cons x r ih =>
    obtain ⟨a1, a2⟩ := List.pairwise_cons.mp h1
    obtain ⟨b1, b2⟩ := List.nodup_cons.mp h2
    refine List.pairwise_cons.mpr ⟨fun y hy => ?_, ih a2 b2⟩
    cases q : HT.lexLt x y with
    | true => rfl
    | false => exact absurd (lex_tot q (a1 y hy) ▸ hy) b1
theorem r_great {S : Store} {k : Nat} {Q : D → Store → Prop} (hs : StAt S k) (hQ : ∀ (many : Int) ts S', 0 ≤ many → many ≤ 14 → WebOk many ts → Kp k S S' → Q (.tup [.int many, .tup (ts.map tupI)]) S') : runs (F__law_great_web [.lst k]) S Q := by
  unfold F__law_great_web m__law_great_web
  refine (runs_fn rfl).mpr ?_
  have l0 : 0 ≤ lim := Nat.zero_le _
  simp only [Nat.zero_add,Nat.reduceAdd,Nat.reduceSub,mComp,sFor,runs_bind,runs_pure,runs_ite,runs_asB,runs_asI,runs_newL,runs_getL,runs_setL,runs_mkTup,runs_fail,List.map_cons,List.map_nil,List.replicate,List.cons_append,List.nil_append,List.set_cons_succ,List.set_cons_zero,outD,seqO,mV,mK,mAnd,mOr,mNot,mIf,aNil,aCons,mTup,mLst,aConsD,mCall,mB1,mOp,mChain,oN,oS,mSl,mRev,mIsi,mIsi2,mMt,bV,bOp,bChain,bChain3,bNot,bAnd,bOr,bTrue,iR1,iR2,iSeq,iZip,gN,gIt,sNil,sCons,sEx,sRet,sIf,sSet,sAsg,sPar,sWhile,gTupD,gsCons,gsNil,List.length_cons,List.length_nil,Bool.not_true,Bool.not_false,Bool.false_eq_true,if_true,if_false,Bool.true_eq_false,rdV_0,rdV_1,rdV_2,rdV_3,rdV_4,rdV_5,rdV_6,rdV_7,rdV_8]
  refine r_takeK hs (by decide) (by decide) fun j S1 j0 j1 e1 k1 => ?_
  have hk1 : k < S1.length := k1.st.lt
  simp only [addD, Nat.zero_add,Nat.reduceAdd,Nat.reduceSub,mComp,sFor,runs_bind,runs_pure,runs_ite,runs_asB,runs_asI,runs_newL,runs_getL,runs_setL,runs_mkTup,runs_fail,List.map_cons,List.map_nil,List.replicate,List.cons_append,List.nil_append,List.set_cons_succ,List.set_cons_zero,outD,seqO,mV,mK,mAnd,mOr,mNot,mIf,aNil,aCons,mTup,mLst,aConsD,mCall,mB1,mOp,mChain,oN,oS,mSl,mRev,mIsi,mIsi2,mMt,bV,bOp,bChain,bChain3,bNot,bAnd,bOr,bTrue,iR1,iR2,iSeq,iZip,gN,gIt,sNil,sCons,sEx,sRet,sIf,sSet,sAsg,sPar,sWhile,gTupD,gsCons,gsNil,List.length_cons,List.length_nil,Bool.not_true,Bool.not_false,Bool.false_eq_true,if_true,if_false,Bool.true_eq_false,rdV_0,rdV_1,rdV_2,rdV_3,rdV_4,rdV_5,rdV_6,rdV_7,rdV_8, l0, true_and]
  refine r_takeK (Kp.grow k1.st _).st (by decide) (by decide) fun c S2 c0 c1 e2 k2 => ?_
  have kp2 := k1.trans ((Kp.grow k1.st [[]]).trans k2)
  have g2 : S2[S1.length]? = some ((([] : List (List Int))).map tupI) := by rw [k2.oth _ (by simp) (by omega)]; exact get_last
  have hr : -(2 ^ 62) ≤ c ∧ c < 2 ^ 62 := ⟨by omega, by omega⟩
  simp only [rangeI, hr, and_self, Nat.zero_add,Nat.reduceAdd,Nat.reduceSub,mComp,sFor,runs_bind,runs_pure,runs_ite,runs_asB,runs_asI,runs_newL,runs_getL,runs_setL,runs_mkTup,runs_fail,List.map_cons,List.map_nil,List.replicate,List.cons_append,List.nil_append,List.set_cons_succ,List.set_cons_zero,outD,seqO,mV,mK,mAnd,mOr,mNot,mIf,aNil,aCons,mTup,mLst,aConsD,mCall,mB1,mOp,mChain,oN,oS,mSl,mRev,mIsi,mIsi2,mMt,bV,bOp,bChain,bChain3,bNot,bAnd,bOr,bTrue,iR1,iR2,iSeq,iZip,gN,gIt,sNil,sCons,sEx,sRet,sIf,sSet,sAsg,sPar,sWhile,gTupD,gsCons,gsNil,List.length_cons,List.length_nil,Bool.not_true,Bool.not_false,Bool.false_eq_true,if_true,if_false,Bool.true_eq_false,rdV_0,rdV_1,rdV_2,rdV_3,rdV_4,rdV_5,rdV_6,rdV_7,rdV_8]
  refine runs_for0 (fun ds ρ S' => ∃ (rs : List (List Int)) (x y z : Option D), ds.length + rs.length = c.toNat ∧ ρ = [some (.lst k), some (.int (8 + j)), some (.lst S1.length), x, y, z] ∧ (∀ t ∈ rs, ∃ a b : Int, t = [a, b] ∧ 0 ≤ a ∧ a < b ∧ b < 8 + j) ∧
    S1.length < S'.length ∧ S'[S1.length]? = some (rs.map tupI) ∧ Kp k S S') ⟨[], none, none, none, by simp [rangeL], rfl, (fun t ht => by cases ht), by rw [e2]; simp, g2, kp2⟩ ?_ ?_
  · rintro ρ S3 ⟨rs, x, y, z, hlen, rfl, hel, q1, q2, kp3⟩
    have rl : rs.length ≤ 11 := by simp at hlen; omega
    have h2 : two rs = true := by
      unfold two
      rw [List.all_eq_true]
      intro t ht
      obtain ⟨a, b, rfl, _⟩ := hel t ht
      rfl
    have cond : rs.length ≤ 18 ∧ two rs = true := ⟨by omega, h2⟩
    have ul : ((sortU rs).map tupI).length ≤ lim := by have := sortU_len rs; simp; unfold lim; omega
    simp only [Nat.zero_add,Nat.reduceAdd,Nat.reduceSub,mComp,sFor,runs_bind,runs_pure,runs_ite,runs_asB,runs_asI,runs_newL,runs_getL,runs_setL,runs_mkTup,runs_fail,List.map_cons,List.map_nil,List.replicate,List.cons_append,List.nil_append,List.set_cons_succ,List.set_cons_zero,outD,seqO,mV,mK,mAnd,mOr,mNot,mIf,aNil,aCons,mTup,mLst,aConsD,mCall,mB1,mOp,mChain,oN,oS,mSl,mRev,mIsi,mIsi2,mMt,bV,bOp,bChain,bChain3,bNot,bAnd,bOr,bTrue,iR1,iR2,iSeq,iZip,gN,gIt,sNil,sCons,sEx,sRet,sIf,sSet,sAsg,sPar,sWhile,gTupD,gsCons,gsNil,List.length_cons,List.length_nil,Bool.not_true,Bool.not_false,Bool.false_eq_true,if_true,if_false,Bool.true_eq_false,rdV_0,rdV_1,rdV_2,rdV_3,rdV_4,rdV_5,rdV_6,rdV_7,rdV_8, sortSetD, q2, Option.some.injEq, exists_eq_left', rowsOf_map, sortSetRows, cond, and_self, ul, true_and, tupleD, get_last, lim2]
    exact hQ (8 + j) (sortU rs) _ (by omega) (by omega) ⟨fun t ht => hel t (sortU_mem.mp ht), sortU_ris rs, by have := sortU_len rs; omega⟩ (kp3.trans (Kp.grow kp3.st _))
  · rintro d ds ρ S3 ⟨rs, x, y, z, hlen, rfl, hel, q1, q2, kp3⟩
    unfold m__law_great_web_b1
    simp only [Nat.zero_add,Nat.reduceAdd,Nat.reduceSub,mComp,sFor,runs_bind,runs_pure,runs_ite,runs_asB,runs_asI,runs_newL,runs_getL,runs_setL,runs_mkTup,runs_fail,List.map_cons,List.map_nil,List.replicate,List.cons_append,List.nil_append,List.set_cons_succ,List.set_cons_zero,outD,seqO,mV,mK,mAnd,mOr,mNot,mIf,aNil,aCons,mTup,mLst,aConsD,mCall,mB1,mOp,mChain,oN,oS,mSl,mRev,mIsi,mIsi2,mMt,bV,bOp,bChain,bChain3,bNot,bAnd,bOr,bTrue,iR1,iR2,iSeq,iZip,gN,gIt,sNil,sCons,sEx,sRet,sIf,sSet,sAsg,sPar,sWhile,gTupD,gsCons,gsNil,List.length_cons,List.length_nil,Bool.not_true,Bool.not_false,Bool.false_eq_true,if_true,if_false,Bool.true_eq_false,rdV_0,rdV_1,rdV_2,rdV_3,rdV_4,rdV_5,rdV_6,rdV_7,rdV_8]
    refine r_takeK kp3.st (by omega) (by omega) fun one S4 o0 o1 e4 k4 => ?_
    simp only [addD, subD, int2, Nat.zero_add,Nat.reduceAdd,Nat.reduceSub,mComp,sFor,runs_bind,runs_pure,runs_ite,runs_asB,runs_asI,runs_newL,runs_getL,runs_setL,runs_mkTup,runs_fail,List.map_cons,List.map_nil,List.replicate,List.cons_append,List.nil_append,List.set_cons_succ,List.set_cons_zero,outD,seqO,mV,mK,mAnd,mOr,mNot,mIf,aNil,aCons,mTup,mLst,aConsD,mCall,mB1,mOp,mChain,oN,oS,mSl,mRev,mIsi,mIsi2,mMt,bV,bOp,bChain,bChain3,bNot,bAnd,bOr,bTrue,iR1,iR2,iSeq,iZip,gN,gIt,sNil,sCons,sEx,sRet,sIf,sSet,sAsg,sPar,sWhile,gTupD,gsCons,gsNil,List.length_cons,List.length_nil,Bool.not_true,Bool.not_false,Bool.false_eq_true,if_true,if_false,Bool.true_eq_false,rdV_0,rdV_1,rdV_2,rdV_3,rdV_4,rdV_5,rdV_6,rdV_7,rdV_8]
    refine r_takeK k4.st (by omega) (by omega) fun two' S5 t0 t1 e5 k5 => ?_
    have hpos : (0 : Int) < 8 + j := by omega
    have kp5 := kp3.trans (k4.trans k5)
    have q5 : S5[S1.length]? = some (rs.map tupI) := by rw [k5.oth _ (by omega) (by omega), k4.oth _ q1 (by omega)]; exact q2
    simp only [addD, modD, int2, hpos, Nat.zero_add,Nat.reduceAdd,Nat.reduceSub,mComp,sFor,runs_bind,runs_pure,runs_ite,runs_asB,runs_asI,runs_newL,runs_getL,runs_setL,runs_mkTup,runs_fail,List.map_cons,List.map_nil,List.replicate,List.cons_append,List.nil_append,List.set_cons_succ,List.set_cons_zero,outD,seqO,mV,mK,mAnd,mOr,mNot,mIf,aNil,aCons,mTup,mLst,aConsD,mCall,mB1,mOp,mChain,oN,oS,mSl,mRev,mIsi,mIsi2,mMt,bV,bOp,bChain,bChain3,bNot,bAnd,bOr,bTrue,iR1,iR2,iSeq,iZip,gN,gIt,sNil,sCons,sEx,sRet,sIf,sSet,sAsg,sPar,sWhile,gTupD,gsCons,gsNil,List.length_cons,List.length_nil,Bool.not_true,Bool.not_false,Bool.false_eq_true,if_true,if_false,Bool.true_eq_false,rdV_0,rdV_1,rdV_2,rdV_3,rdV_4,rdV_5,rdV_6,rdV_7,rdV_8, minD, maxD, int2L, lim2, true_and, asL]
    generalize ho : (one + 1 + two') % (8 + j) = oth
    have hoth : oth ≠ one ∧ 0 ≤ oth ∧ oth < 8 + j := by
      have b1 : 0 ≤ oth := by rw [← ho]; exact Int.emod_nonneg _ (by omega)
      have b2 : oth < 8 + j := by rw [← ho]; exact Int.emod_lt_of_pos _ (by omega)
      refine ⟨?_, b1, b2⟩
      by_cases hc : one + 1 + two' < 8 + j
      · have : (one + 1 + two') % (8 + j) = one + 1 + two' := Int.emod_eq_of_lt (by omega) hc
        omega
      · have : (one + 1 + two') % (8 + j) = one + 1 + two' - (8 + j) := by
          rw [← Int.sub_emod_right]
          exact Int.emod_eq_of_lt (by omega) (by omega)
        omega
    have l3 : (rs.map tupI ++ [D.tup [D.int (if oth < one then oth else one), D.int (if oth > one then oth else one)]]).length ≤ lim := by simp at hlen ⊢; unfold lim; omega
    have l4 : S1.length < S5.length := by omega
    simp only [appendD, q5, Option.some.injEq, exists_eq_left', l3, l4, and_self, true_and, Nat.zero_add,Nat.reduceAdd,Nat.reduceSub,mComp,sFor,runs_bind,runs_pure,runs_ite,runs_asB,runs_asI,runs_newL,runs_getL,runs_setL,runs_mkTup,runs_fail,List.map_cons,List.map_nil,List.replicate,List.cons_append,List.nil_append,List.set_cons_succ,List.set_cons_zero,outD,seqO,mV,mK,mAnd,mOr,mNot,mIf,aNil,aCons,mTup,mLst,aConsD,mCall,mB1,mOp,mChain,oN,oS,mSl,mRev,mIsi,mIsi2,mMt,bV,bOp,bChain,bChain3,bNot,bAnd,bOr,bTrue,iR1,iR2,iSeq,iZip,gN,gIt,sNil,sCons,sEx,sRet,sIf,sSet,sAsg,sPar,sWhile,gTupD,gsCons,gsNil,List.length_cons,List.length_nil,Bool.not_true,Bool.not_false,Bool.false_eq_true,if_true,if_false,Bool.true_eq_false,rdV_0,rdV_1,rdV_2,rdV_3,rdV_4,rdV_5,rdV_6,rdV_7,rdV_8]
    refine ⟨rs ++ [[if oth < one then oth else one, if oth > one then oth else one]], _, _, _, by simp at hlen ⊢; omega, rfl, fun t ht => ?_, by simp; omega, ?_, ?_⟩
    · rcases List.mem_append.mp ht with ht | ht
      · exact hel t ht
      · have : t = [if oth < one then oth else one, if oth > one then oth else one] := by simpa using ht
        subst this
        refine ⟨_, _, rfl, ?_⟩
        obtain ⟨h1, h2, h3⟩ := hoth
        by_cases c1 : oth < one
        · rw [if_pos c1, if_neg (by omega)]; exact ⟨h2, c1, o1⟩
        · rw [if_neg c1, if_pos (by omega)]; exact ⟨o0, by omega, h3⟩
    · rw [List.getElem?_set_self l4, List.map_append]; rfl
    · refine ⟨by have := kp5.len; simp; omega, fun i hi hik => ?_, ?_⟩
      · have h1 := k1.len
        rw [List.getElem?_set_ne (by omega)]; exact kp5.oth i hi hik
      · obtain ⟨st, b', e, z⟩ := kp5.st
        exact ⟨st, b', by rw [List.getElem?_set_ne (by omega)]; exact e, z⟩
end W
end
section
set_option maxRecDepth 100000
set_option maxHeartbeats 4000000
namespace W
open PySem PySem.Spec PyProof.Rows L2 S3 S4
theorem eqv_ints : ∀ a b : List Int, PyData.eqvAll (a.map PyData.int) (b.map PyData.int) = decide (a = b)
  | [], [] => by simp [PyData.eqvAll]
  | [], _ :: _ => by simp [PyData.eqvAll]
  | _ :: _, [] => by simp [PyData.eqvAll]
  | x :: a, y :: b => by
    simp only [List.map_cons, PyData.eqvAll, PyData.eqv, eqv_ints a b, List.cons.injEq]
    rw [Bool.eq_iff_iff]; simp
theorem eqv_row (a b : List Int) : PyData.eqv (pRow a) (pRow b) = decide (a = b) := by
  unfold pRow
  simp only [PyData.eqv, eqv_ints]
theorem eqv_rows : ∀ a b : List (List Int), PyData.eqvAll (a.map pRow) (b.map pRow) = decide (a = b)
  | [], [] => by simp [PyData.eqvAll]
  | [], _ :: _ => by simp [PyData.eqvAll]
  | _ :: _, [] => by simp [PyData.eqvAll]
  | x :: a, y :: b => by
    simp only [List.map_cons, PyData.eqvAll, eqv_row, eqv_rows a b, List.cons.injEq]
    rw [Bool.eq_iff_iff]; simp
theorem eq_rows {S : Store} {p q : Nat} {a b : List (List Int)} {Q : D → Store → Prop} (h1 : S[p]? = some (a.map tupI)) (h2 : S[q]? = some (b.map tupI)) : runs (eqD (.lst p) (.lst q)) S Q ↔ Q (.bl (decide (a = b))) S := by
  unfold eqD
  rw [runs_eq (toP_rows h1) (toP_rows h2)]
  have : PyData.eqv (.list (a.map pRow)) (.list (b.map pRow)) = decide (a = b) := by simp only [PyData.eqv, eqv_rows]
  rw [this]
theorem ris_pair : ∀ {ts : List (List Int)}, risB (ts.map tupI) = true → ts.Pairwise fun a b => HT.lexLt a b = true
  | [], _ => .nil
  | [_], _ => by simp
  | a :: b :: r, h => by
    have h' : (rowB (tupI a) (tupI b) && risB ((b :: r).map tupI)) = true := h
    rw [rowB_tupI, Bool.and_eq_true] at h'
    have ih := ris_pair (ts := b :: r) h'.2
    refine List.pairwise_cons.mpr ⟨fun z hz => ?_, ih⟩
    rcases List.mem_cons.mp hz with rfl | hz
    · exact h'.1
    · exact lex_tr h'.1 ((List.pairwise_cons.mp ih).1 z hz)
theorem dedup_id : ∀ {l : List (List Int)}, l.Nodup → dedupT l = l
  | [], _ => rfl
  | x :: r, h => by
    obtain ⟨h1, h2⟩ := List.nodup_cons.mp h
    unfold dedupT
    rw [dedup_id h2, if_neg h1]
theorem ris_nd {l : List (List Int)} (h : l.Pairwise fun a b => HT.lexLt a b = true) : l.Nodup := h.imp fun {a b} z e => by
  subst e
  rw [lex_irr] at z; cases z
theorem sortU_iff (ts : List (List Int)) : decide (ts = sortU ts) = risB (ts.map tupI) := by
  rw [Bool.eq_iff_iff, decide_eq_true_eq]
  constructor
  · intro h
    exact ris_rows (by rw [h]; exact sortU_ris ts)
  · intro h
    have p := ris_pair h
    unfold sortU
    rw [dedup_id (ris_nd p), sortT_ris p]
theorem r_lwhole {d : D} {S : Store} {Q : D → Store → Prop} (h : nr0 d) : runs (F__law_whole [d]) S Q ↔ Q (.bl (wholeB d)) S := by
  unfold F__law_whole m__law_whole
  refine (runs_fn rfl).trans ?_
  simp only [Nat.zero_add,Nat.reduceAdd,Nat.reduceSub,mComp,sFor,runs_bind,runs_pure,runs_ite,runs_asB,runs_asI,runs_newL,runs_getL,runs_setL,runs_mkTup,runs_fail,List.map_cons,List.map_nil,List.replicate,List.cons_append,List.nil_append,List.set_cons_succ,List.set_cons_zero,outD,seqO,mV,mK,mAnd,mOr,mNot,mIf,aNil,aCons,mTup,mLst,aConsD,mCall,mB1,mOp,mChain,oN,oS,mSl,mRev,mIsi,mIsi2,mMt,bV,bOp,bChain,bChain3,bNot,bAnd,bOr,bTrue,iR1,iR2,iSeq,iZip,gN,gIt,sNil,sCons,sEx,sRet,sIf,sSet,sAsg,sPar,sWhile,gTupD,gsCons,gsNil,List.length_cons,List.length_nil,Bool.not_true,Bool.not_false,Bool.false_eq_true,if_true,if_false,Bool.true_eq_false,rdV_0,rdV_1,rdV_2,rdV_3,rdV_4,rdV_5,rdV_6,rdV_7,rdV_8, runs_isi h]
  cases d with
  | ro ds => exact absurd rfl (h ds)
  | _ => simp [dTy, sub1, wholeB]
theorem ne_int {S : Store} {a b : Int} {Q : D → Store → Prop} : runs (neD (.int a) (.int b)) S Q ↔ Q (.bl (!decide (a = b))) S := by
  unfold neD
  rw [runs_eq toP_int toP_int]
  have : PyData.eqv (.int a) (.int b) = decide (a = b) := by
    simp only [PyData.eqv]
    rw [Bool.eq_iff_iff]; simp
  rw [this]
theorem at2_0 {a b : D} : atI [a, b] 0 = some a := rfl
theorem at2_1 {a b : D} : atI [a, b] 1 = some b := rfl
theorem ties_rows {many : Int} : ∀ {ts : List D}, (∀ t ∈ ts, tieB many t = true) → ∃ rs : List (List Int), ts = rs.map tupI ∧ two rs = true
  | [], _ => ⟨[], rfl, rfl⟩
  | t :: ts, h => by
    obtain ⟨rs, e, h2⟩ := ties_rows (ts := ts) fun u hu => h u (List.mem_cons_of_mem _ hu)
    obtain ⟨i, j, e1, _⟩ := tie_row (h t List.mem_cons_self)
    refine ⟨[i, j] :: rs, by rw [e, e1]; rfl, ?_⟩
    unfold two at h2 ⊢
    rw [List.all_cons, h2]; rfl
theorem r_lisweb {d : D} {S : Store} {Q : D → Store → Prop} (h : nr3 d) (few : ∀ m ts, d = .tup [m, .tup ts] → ts.length ≤ 18) (hQ : ∀ G, Q (.bl (webB d)) (S ++ G)) : runs (F__law_is_web [d]) S Q := by
  unfold F__law_is_web m__law_is_web
  refine (runs_fn rfl).mpr ?_
  have q0 : webB d = false → Q (.bl false) S := fun e => by
    have := hQ []
    rw [e, List.append_nil] at this; exact this
  simp only [Nat.zero_add,Nat.reduceAdd,Nat.reduceSub,mComp,sFor,runs_bind,runs_pure,runs_ite,runs_asB,runs_asI,runs_newL,runs_getL,runs_setL,runs_mkTup,runs_fail,List.map_cons,List.map_nil,List.replicate,List.cons_append,List.nil_append,List.set_cons_succ,List.set_cons_zero,outD,seqO,mV,mK,mAnd,mOr,mNot,mIf,aNil,aCons,mTup,mLst,aConsD,mCall,mB1,mOp,mChain,oN,oS,mSl,mRev,mIsi,mIsi2,mMt,bV,bOp,bChain,bChain3,bNot,bAnd,bOr,bTrue,iR1,iR2,iSeq,iZip,gN,gIt,sNil,sCons,sEx,sRet,sIf,sSet,sAsg,sPar,sWhile,gTupD,gsCons,gsNil,List.length_cons,List.length_nil,Bool.not_true,Bool.not_false,Bool.false_eq_true,if_true,if_false,Bool.true_eq_false,rdV_0,rdV_1,rdV_2,rdV_3,rdV_4,rdV_5,rdV_6,rdV_7,rdV_8, runs_isi h.1]
  cases d with
  | tup ds =>
    simp only [dTy, sub1, beq_self_eq_true, Bool.true_or, Nat.zero_add,Nat.reduceAdd,Nat.reduceSub,mComp,sFor,runs_bind,runs_pure,runs_ite,runs_asB,runs_asI,runs_newL,runs_getL,runs_setL,runs_mkTup,runs_fail,List.map_cons,List.map_nil,List.replicate,List.cons_append,List.nil_append,List.set_cons_succ,List.set_cons_zero,outD,seqO,mV,mK,mAnd,mOr,mNot,mIf,aNil,aCons,mTup,mLst,aConsD,mCall,mB1,mOp,mChain,oN,oS,mSl,mRev,mIsi,mIsi2,mMt,bV,bOp,bChain,bChain3,bNot,bAnd,bOr,bTrue,iR1,iR2,iSeq,iZip,gN,gIt,sNil,sCons,sEx,sRet,sIf,sSet,sAsg,sPar,sWhile,gTupD,gsCons,gsNil,List.length_cons,List.length_nil,Bool.not_true,Bool.not_false,Bool.false_eq_true,if_true,if_false,Bool.true_eq_false,rdV_0,rdV_1,rdV_2,rdV_3,rdV_4,rdV_5,rdV_6,rdV_7,rdV_8, lenD, ne_int]
    match ds, h, few, hQ, q0 with
    | [], h, few, hQ, q0 => simp only [List.length_nil, Nat.zero_add,Nat.reduceAdd,Nat.reduceSub,mComp,sFor,runs_bind,runs_pure,runs_ite,runs_asB,runs_asI,runs_newL,runs_getL,runs_setL,runs_mkTup,runs_fail,List.map_cons,List.map_nil,List.replicate,List.cons_append,List.nil_append,List.set_cons_succ,List.set_cons_zero,outD,seqO,mV,mK,mAnd,mOr,mNot,mIf,aNil,aCons,mTup,mLst,aConsD,mCall,mB1,mOp,mChain,oN,oS,mSl,mRev,mIsi,mIsi2,mMt,bV,bOp,bChain,bChain3,bNot,bAnd,bOr,bTrue,iR1,iR2,iSeq,iZip,gN,gIt,sNil,sCons,sEx,sRet,sIf,sSet,sAsg,sPar,sWhile,gTupD,gsCons,gsNil,List.length_cons,List.length_nil,Bool.not_true,Bool.not_false,Bool.false_eq_true,if_true,if_false,Bool.true_eq_false,rdV_0,rdV_1,rdV_2,rdV_3,rdV_4,rdV_5,rdV_6,rdV_7,rdV_8]; exact q0 rfl
    | [_], h, few, hQ, q0 => simp only [List.length_cons, List.length_nil, Nat.zero_add,Nat.reduceAdd,Nat.reduceSub,mComp,sFor,runs_bind,runs_pure,runs_ite,runs_asB,runs_asI,runs_newL,runs_getL,runs_setL,runs_mkTup,runs_fail,List.map_cons,List.map_nil,List.replicate,List.cons_append,List.nil_append,List.set_cons_succ,List.set_cons_zero,outD,seqO,mV,mK,mAnd,mOr,mNot,mIf,aNil,aCons,mTup,mLst,aConsD,mCall,mB1,mOp,mChain,oN,oS,mSl,mRev,mIsi,mIsi2,mMt,bV,bOp,bChain,bChain3,bNot,bAnd,bOr,bTrue,iR1,iR2,iSeq,iZip,gN,gIt,sNil,sCons,sEx,sRet,sIf,sSet,sAsg,sPar,sWhile,gTupD,gsCons,gsNil,List.length_cons,List.length_nil,Bool.not_true,Bool.not_false,Bool.false_eq_true,if_true,if_false,Bool.true_eq_false,rdV_0,rdV_1,rdV_2,rdV_3,rdV_4,rdV_5,rdV_6,rdV_7,rdV_8]; exact q0 (by simp [webB])
    | a :: b :: c :: r, h, few, hQ, q0 =>
      have : decide (((a :: b :: c :: r).length : Int) = 2) = false := decide_eq_false (by simp only [List.length_cons]; omega)
      simp only [this, Nat.zero_add,Nat.reduceAdd,Nat.reduceSub,mComp,sFor,runs_bind,runs_pure,runs_ite,runs_asB,runs_asI,runs_newL,runs_getL,runs_setL,runs_mkTup,runs_fail,List.map_cons,List.map_nil,List.replicate,List.cons_append,List.nil_append,List.set_cons_succ,List.set_cons_zero,outD,seqO,mV,mK,mAnd,mOr,mNot,mIf,aNil,aCons,mTup,mLst,aConsD,mCall,mB1,mOp,mChain,oN,oS,mSl,mRev,mIsi,mIsi2,mMt,bV,bOp,bChain,bChain3,bNot,bAnd,bOr,bTrue,iR1,iR2,iSeq,iZip,gN,gIt,sNil,sCons,sEx,sRet,sIf,sSet,sAsg,sPar,sWhile,gTupD,gsCons,gsNil,List.length_cons,List.length_nil,Bool.not_true,Bool.not_false,Bool.false_eq_true,if_true,if_false,Bool.true_eq_false,rdV_0,rdV_1,rdV_2,rdV_3,rdV_4,rdV_5,rdV_6,rdV_7,rdV_8]
      exact q0 (by simp [webB])
    | [a, t], h, few, hQ, q0 =>
      obtain ⟨ha, _⟩ := h.2 _ rfl a (by simp)
      obtain ⟨ht, htt⟩ := h.2 _ rfl t (by simp)
      have e2 : decide ((([a, t] : List D).length : Int) = 2) = true := rfl
      simp only [e2, Nat.zero_add,Nat.reduceAdd,Nat.reduceSub,mComp,sFor,runs_bind,runs_pure,runs_ite,runs_asB,runs_asI,runs_newL,runs_getL,runs_setL,runs_mkTup,runs_fail,List.map_cons,List.map_nil,List.replicate,List.cons_append,List.nil_append,List.set_cons_succ,List.set_cons_zero,outD,seqO,mV,mK,mAnd,mOr,mNot,mIf,aNil,aCons,mTup,mLst,aConsD,mCall,mB1,mOp,mChain,oN,oS,mSl,mRev,mIsi,mIsi2,mMt,bV,bOp,bChain,bChain3,bNot,bAnd,bOr,bTrue,iR1,iR2,iSeq,iZip,gN,gIt,sNil,sCons,sEx,sRet,sIf,sSet,sAsg,sPar,sWhile,gTupD,gsCons,gsNil,List.length_cons,List.length_nil,Bool.not_true,Bool.not_false,Bool.false_eq_true,if_true,if_false,Bool.true_eq_false,rdV_0,rdV_1,rdV_2,rdV_3,rdV_4,rdV_5,rdV_6,rdV_7,rdV_8, ixD, at2_0, at2_1, r_lwhole ha]
      cases a with
      | int many =>
        simp only [wholeB, Nat.zero_add,Nat.reduceAdd,Nat.reduceSub,mComp,sFor,runs_bind,runs_pure,runs_ite,runs_asB,runs_asI,runs_newL,runs_getL,runs_setL,runs_mkTup,runs_fail,List.map_cons,List.map_nil,List.replicate,List.cons_append,List.nil_append,List.set_cons_succ,List.set_cons_zero,outD,seqO,mV,mK,mAnd,mOr,mNot,mIf,aNil,aCons,mTup,mLst,aConsD,mCall,mB1,mOp,mChain,oN,oS,mSl,mRev,mIsi,mIsi2,mMt,bV,bOp,bChain,bChain3,bNot,bAnd,bOr,bTrue,iR1,iR2,iSeq,iZip,gN,gIt,sNil,sCons,sEx,sRet,sIf,sSet,sAsg,sPar,sWhile,gTupD,gsCons,gsNil,List.length_cons,List.length_nil,Bool.not_true,Bool.not_false,Bool.false_eq_true,if_true,if_false,Bool.true_eq_false,rdV_0,rdV_1,rdV_2,rdV_3,rdV_4,rdV_5,rdV_6,rdV_7,rdV_8, leD, int2]
        by_cases h0 : 0 ≤ many
        · by_cases h14 : many ≤ 14
          · simp only [h0, h14, decide_true, Nat.zero_add,Nat.reduceAdd,Nat.reduceSub,mComp,sFor,runs_bind,runs_pure,runs_ite,runs_asB,runs_asI,runs_newL,runs_getL,runs_setL,runs_mkTup,runs_fail,List.map_cons,List.map_nil,List.replicate,List.cons_append,List.nil_append,List.set_cons_succ,List.set_cons_zero,outD,seqO,mV,mK,mAnd,mOr,mNot,mIf,aNil,aCons,mTup,mLst,aConsD,mCall,mB1,mOp,mChain,oN,oS,mSl,mRev,mIsi,mIsi2,mMt,bV,bOp,bChain,bChain3,bNot,bAnd,bOr,bTrue,iR1,iR2,iSeq,iZip,gN,gIt,sNil,sCons,sEx,sRet,sIf,sSet,sAsg,sPar,sWhile,gTupD,gsCons,gsNil,List.length_cons,List.length_nil,Bool.not_true,Bool.not_false,Bool.false_eq_true,if_true,if_false,Bool.true_eq_false,rdV_0,rdV_1,rdV_2,rdV_3,rdV_4,rdV_5,rdV_6,rdV_7,rdV_8, runs_isi ht]
            cases t with
            | tup ts =>
              simp only [dTy, sub1, beq_self_eq_true, Bool.true_or, Nat.zero_add,Nat.reduceAdd,Nat.reduceSub,mComp,sFor,runs_bind,runs_pure,runs_ite,runs_asB,runs_asI,runs_newL,runs_getL,runs_setL,runs_mkTup,runs_fail,List.map_cons,List.map_nil,List.replicate,List.cons_append,List.nil_append,List.set_cons_succ,List.set_cons_zero,outD,seqO,mV,mK,mAnd,mOr,mNot,mIf,aNil,aCons,mTup,mLst,aConsD,mCall,mB1,mOp,mChain,oN,oS,mSl,mRev,mIsi,mIsi2,mMt,bV,bOp,bChain,bChain3,bNot,bAnd,bOr,bTrue,iR1,iR2,iSeq,iZip,gN,gIt,sNil,sCons,sEx,sRet,sIf,sSet,sAsg,sPar,sWhile,gTupD,gsCons,gsNil,List.length_cons,List.length_nil,Bool.not_true,Bool.not_false,Bool.false_eq_true,if_true,if_false,Bool.true_eq_false,rdV_0,rdV_1,rdV_2,rdV_3,rdV_4,rdV_5,rdV_6,rdV_7,rdV_8, seqI]
              have hw : webB (.tup [.int many, .tup ts]) = (ts.all (tieB many) && risB ts) := by simp only [webB, h0, h14, decide_true, Bool.true_and]
              refine runs_for0 (fun xs ρ S' => S' = S ∧ ∃ pre x, ts = pre ++ xs ∧ (∀ u ∈ pre, tieB many u = true) ∧ ρ = [some (.tup [.int many, .tup ts]), x]) ⟨rfl, [], none, rfl, (fun u hu => by cases hu), rfl⟩ ?_ ?_
              · rintro ρ S' ⟨rfl, pre, x, e, hall, rfl⟩
                rw [List.append_nil] at e
                subst e
                obtain ⟨rs, er, h2⟩ := ties_rows hall
                have hall' : ts.all (tieB many) = true := List.all_eq_true.mpr hall
                have len := few _ _ rfl
                rw [er] at len hw hall' hQ ⊢
                have rl : rs.length ≤ 18 := by simpa using len
                have cond : rs.length ≤ 18 ∧ two rs = true := ⟨rl, h2⟩
                have l1 : (rs.map tupI).length ≤ lim := by simp; unfold lim; omega
                have l2 : ((sortU rs).map tupI).length ≤ lim := by have := sortU_len rs; simp; unfold lim; omega
                simp only [Nat.zero_add,Nat.reduceAdd,Nat.reduceSub,mComp,sFor,runs_bind,runs_pure,runs_ite,runs_asB,runs_asI,runs_newL,runs_getL,runs_setL,runs_mkTup,runs_fail,List.map_cons,List.map_nil,List.replicate,List.cons_append,List.nil_append,List.set_cons_succ,List.set_cons_zero,outD,seqO,mV,mK,mAnd,mOr,mNot,mIf,aNil,aCons,mTup,mLst,aConsD,mCall,mB1,mOp,mChain,oN,oS,mSl,mRev,mIsi,mIsi2,mMt,bV,bOp,bChain,bChain3,bNot,bAnd,bOr,bTrue,iR1,iR2,iSeq,iZip,gN,gIt,sNil,sCons,sEx,sRet,sIf,sSet,sAsg,sPar,sWhile,gTupD,gsCons,gsNil,List.length_cons,List.length_nil,Bool.not_true,Bool.not_false,Bool.false_eq_true,if_true,if_false,Bool.true_eq_false,rdV_0,rdV_1,rdV_2,rdV_3,rdV_4,rdV_5,rdV_6,rdV_7,rdV_8, ixD, at2_1, listD, l1, true_and, sortSetD, rowsOf_map, sortSetRows, cond, and_self, l2]
                rw [eq_rows (a := rs) (b := sortU rs) (by rw [List.getElem?_append_left (by simp)]; exact get_last) get_last, sortU_iff]
                have := hQ ([rs.map tupI] ++ [(sortU rs).map tupI])
                rw [hw, hall', Bool.true_and] at this
                rw [List.append_assoc]; exact this
              · rintro u xs ρ S' ⟨rfl, pre, x, e, hall, rfl⟩
                have hu : nr1 u := htt _ rfl u (by rw [e]; simp)
                have bad : tieB many u = false → Q (.bl false) S' := fun hb => q0 (by
                  rw [hw, e, List.all_append, List.all_cons, hb]; simp)
                have good : tieB many u = true → ∃ pre x, ts = pre ++ xs ∧ (∀ u ∈ pre, tieB many u = true) ∧ ([some (D.tup [D.int many, D.tup ts]), some u] : Env0) = [some (.tup [.int many, .tup ts]), x] := fun hg =>
                  ⟨pre ++ [u], _, by rw [e]; simp, fun v hv => by
                    rcases List.mem_append.mp hv with hv | hv
                    · exact hall v hv
                    · have : v = u := by simpa using hv
                      rw [this]; exact hg, rfl⟩
                unfold m__law_is_web_b1
                simp only [Nat.zero_add,Nat.reduceAdd,Nat.reduceSub,mComp,sFor,runs_bind,runs_pure,runs_ite,runs_asB,runs_asI,runs_newL,runs_getL,runs_setL,runs_mkTup,runs_fail,List.map_cons,List.map_nil,List.replicate,List.cons_append,List.nil_append,List.set_cons_succ,List.set_cons_zero,outD,seqO,mV,mK,mAnd,mOr,mNot,mIf,aNil,aCons,mTup,mLst,aConsD,mCall,mB1,mOp,mChain,oN,oS,mSl,mRev,mIsi,mIsi2,mMt,bV,bOp,bChain,bChain3,bNot,bAnd,bOr,bTrue,iR1,iR2,iSeq,iZip,gN,gIt,sNil,sCons,sEx,sRet,sIf,sSet,sAsg,sPar,sWhile,gTupD,gsCons,gsNil,List.length_cons,List.length_nil,Bool.not_true,Bool.not_false,Bool.false_eq_true,if_true,if_false,Bool.true_eq_false,rdV_0,rdV_1,rdV_2,rdV_3,rdV_4,rdV_5,rdV_6,rdV_7,rdV_8, runs_isi hu.1]
                cases u with
                | tup us =>
                  simp only [dTy, sub1, beq_self_eq_true, Bool.true_or, Nat.zero_add,Nat.reduceAdd,Nat.reduceSub,mComp,sFor,runs_bind,runs_pure,runs_ite,runs_asB,runs_asI,runs_newL,runs_getL,runs_setL,runs_mkTup,runs_fail,List.map_cons,List.map_nil,List.replicate,List.cons_append,List.nil_append,List.set_cons_succ,List.set_cons_zero,outD,seqO,mV,mK,mAnd,mOr,mNot,mIf,aNil,aCons,mTup,mLst,aConsD,mCall,mB1,mOp,mChain,oN,oS,mSl,mRev,mIsi,mIsi2,mMt,bV,bOp,bChain,bChain3,bNot,bAnd,bOr,bTrue,iR1,iR2,iSeq,iZip,gN,gIt,sNil,sCons,sEx,sRet,sIf,sSet,sAsg,sPar,sWhile,gTupD,gsCons,gsNil,List.length_cons,List.length_nil,Bool.not_true,Bool.not_false,Bool.false_eq_true,if_true,if_false,Bool.true_eq_false,rdV_0,rdV_1,rdV_2,rdV_3,rdV_4,rdV_5,rdV_6,rdV_7,rdV_8, lenD, ne_int]
                  match us, hu, bad, good with
                  | [], hu, bad, good => simp only [List.length_nil, Nat.zero_add,Nat.reduceAdd,Nat.reduceSub,mComp,sFor,runs_bind,runs_pure,runs_ite,runs_asB,runs_asI,runs_newL,runs_getL,runs_setL,runs_mkTup,runs_fail,List.map_cons,List.map_nil,List.replicate,List.cons_append,List.nil_append,List.set_cons_succ,List.set_cons_zero,outD,seqO,mV,mK,mAnd,mOr,mNot,mIf,aNil,aCons,mTup,mLst,aConsD,mCall,mB1,mOp,mChain,oN,oS,mSl,mRev,mIsi,mIsi2,mMt,bV,bOp,bChain,bChain3,bNot,bAnd,bOr,bTrue,iR1,iR2,iSeq,iZip,gN,gIt,sNil,sCons,sEx,sRet,sIf,sSet,sAsg,sPar,sWhile,gTupD,gsCons,gsNil,List.length_cons,List.length_nil,Bool.not_true,Bool.not_false,Bool.false_eq_true,if_true,if_false,Bool.true_eq_false,rdV_0,rdV_1,rdV_2,rdV_3,rdV_4,rdV_5,rdV_6,rdV_7,rdV_8]; exact bad rfl
                  | [_], hu, bad, good => simp only [List.length_cons, List.length_nil, Nat.zero_add,Nat.reduceAdd,Nat.reduceSub,mComp,sFor,runs_bind,runs_pure,runs_ite,runs_asB,runs_asI,runs_newL,runs_getL,runs_setL,runs_mkTup,runs_fail,List.map_cons,List.map_nil,List.replicate,List.cons_append,List.nil_append,List.set_cons_succ,List.set_cons_zero,outD,seqO,mV,mK,mAnd,mOr,mNot,mIf,aNil,aCons,mTup,mLst,aConsD,mCall,mB1,mOp,mChain,oN,oS,mSl,mRev,mIsi,mIsi2,mMt,bV,bOp,bChain,bChain3,bNot,bAnd,bOr,bTrue,iR1,iR2,iSeq,iZip,gN,gIt,sNil,sCons,sEx,sRet,sIf,sSet,sAsg,sPar,sWhile,gTupD,gsCons,gsNil,List.length_cons,List.length_nil,Bool.not_true,Bool.not_false,Bool.false_eq_true,if_true,if_false,Bool.true_eq_false,rdV_0,rdV_1,rdV_2,rdV_3,rdV_4,rdV_5,rdV_6,rdV_7,rdV_8]; exact bad rfl
                  | a :: b :: c :: r, hu, bad, good =>
                    have : decide (((a :: b :: c :: r).length : Int) = 2) = false := decide_eq_false (by simp only [List.length_cons]; omega)
                    simp only [this, Nat.zero_add,Nat.reduceAdd,Nat.reduceSub,mComp,sFor,runs_bind,runs_pure,runs_ite,runs_asB,runs_asI,runs_newL,runs_getL,runs_setL,runs_mkTup,runs_fail,List.map_cons,List.map_nil,List.replicate,List.cons_append,List.nil_append,List.set_cons_succ,List.set_cons_zero,outD,seqO,mV,mK,mAnd,mOr,mNot,mIf,aNil,aCons,mTup,mLst,aConsD,mCall,mB1,mOp,mChain,oN,oS,mSl,mRev,mIsi,mIsi2,mMt,bV,bOp,bChain,bChain3,bNot,bAnd,bOr,bTrue,iR1,iR2,iSeq,iZip,gN,gIt,sNil,sCons,sEx,sRet,sIf,sSet,sAsg,sPar,sWhile,gTupD,gsCons,gsNil,List.length_cons,List.length_nil,Bool.not_true,Bool.not_false,Bool.false_eq_true,if_true,if_false,Bool.true_eq_false,rdV_0,rdV_1,rdV_2,rdV_3,rdV_4,rdV_5,rdV_6,rdV_7,rdV_8]
                    exact bad rfl
                  | [p, q], hu, bad, good =>
                    have np : nr0 p := hu.2 _ rfl p (by simp)
                    have nq : nr0 q := hu.2 _ rfl q (by simp)
                    have e3 : decide ((([p, q] : List D).length : Int) = 2) = true := rfl
                    simp only [e3, Nat.zero_add,Nat.reduceAdd,Nat.reduceSub,mComp,sFor,runs_bind,runs_pure,runs_ite,runs_asB,runs_asI,runs_newL,runs_getL,runs_setL,runs_mkTup,runs_fail,List.map_cons,List.map_nil,List.replicate,List.cons_append,List.nil_append,List.set_cons_succ,List.set_cons_zero,outD,seqO,mV,mK,mAnd,mOr,mNot,mIf,aNil,aCons,mTup,mLst,aConsD,mCall,mB1,mOp,mChain,oN,oS,mSl,mRev,mIsi,mIsi2,mMt,bV,bOp,bChain,bChain3,bNot,bAnd,bOr,bTrue,iR1,iR2,iSeq,iZip,gN,gIt,sNil,sCons,sEx,sRet,sIf,sSet,sAsg,sPar,sWhile,gTupD,gsCons,gsNil,List.length_cons,List.length_nil,Bool.not_true,Bool.not_false,Bool.false_eq_true,if_true,if_false,Bool.true_eq_false,rdV_0,rdV_1,rdV_2,rdV_3,rdV_4,rdV_5,rdV_6,rdV_7,rdV_8, ixD, at2_0, at2_1, r_lwhole np, r_lwhole nq]
                    cases p with
                    | int i =>
                      cases q with
                      | int j =>
                        simp only [wholeB, Nat.zero_add,Nat.reduceAdd,Nat.reduceSub,mComp,sFor,runs_bind,runs_pure,runs_ite,runs_asB,runs_asI,runs_newL,runs_getL,runs_setL,runs_mkTup,runs_fail,List.map_cons,List.map_nil,List.replicate,List.cons_append,List.nil_append,List.set_cons_succ,List.set_cons_zero,outD,seqO,mV,mK,mAnd,mOr,mNot,mIf,aNil,aCons,mTup,mLst,aConsD,mCall,mB1,mOp,mChain,oN,oS,mSl,mRev,mIsi,mIsi2,mMt,bV,bOp,bChain,bChain3,bNot,bAnd,bOr,bTrue,iR1,iR2,iSeq,iZip,gN,gIt,sNil,sCons,sEx,sRet,sIf,sSet,sAsg,sPar,sWhile,gTupD,gsCons,gsNil,List.length_cons,List.length_nil,Bool.not_true,Bool.not_false,Bool.false_eq_true,if_true,if_false,Bool.true_eq_false,rdV_0,rdV_1,rdV_2,rdV_3,rdV_4,rdV_5,rdV_6,rdV_7,rdV_8, leD, ltD, int2]
                        by_cases c1 : 0 ≤ i
                        · by_cases c2 : i < j
                          · by_cases c3 : j < many
                            · simp only [c1, c2, c3, decide_true, Nat.zero_add,Nat.reduceAdd,Nat.reduceSub,mComp,sFor,runs_bind,runs_pure,runs_ite,runs_asB,runs_asI,runs_newL,runs_getL,runs_setL,runs_mkTup,runs_fail,List.map_cons,List.map_nil,List.replicate,List.cons_append,List.nil_append,List.set_cons_succ,List.set_cons_zero,outD,seqO,mV,mK,mAnd,mOr,mNot,mIf,aNil,aCons,mTup,mLst,aConsD,mCall,mB1,mOp,mChain,oN,oS,mSl,mRev,mIsi,mIsi2,mMt,bV,bOp,bChain,bChain3,bNot,bAnd,bOr,bTrue,iR1,iR2,iSeq,iZip,gN,gIt,sNil,sCons,sEx,sRet,sIf,sSet,sAsg,sPar,sWhile,gTupD,gsCons,gsNil,List.length_cons,List.length_nil,Bool.not_true,Bool.not_false,Bool.false_eq_true,if_true,if_false,Bool.true_eq_false,rdV_0,rdV_1,rdV_2,rdV_3,rdV_4,rdV_5,rdV_6,rdV_7,rdV_8]
                              exact ⟨trivial, good (by simp [tieB, placeB, c1, c2, c3]; omega)⟩
                            · simp only [c1, c2, c3, decide_true, decide_false, Nat.zero_add,Nat.reduceAdd,Nat.reduceSub,mComp,sFor,runs_bind,runs_pure,runs_ite,runs_asB,runs_asI,runs_newL,runs_getL,runs_setL,runs_mkTup,runs_fail,List.map_cons,List.map_nil,List.replicate,List.cons_append,List.nil_append,List.set_cons_succ,List.set_cons_zero,outD,seqO,mV,mK,mAnd,mOr,mNot,mIf,aNil,aCons,mTup,mLst,aConsD,mCall,mB1,mOp,mChain,oN,oS,mSl,mRev,mIsi,mIsi2,mMt,bV,bOp,bChain,bChain3,bNot,bAnd,bOr,bTrue,iR1,iR2,iSeq,iZip,gN,gIt,sNil,sCons,sEx,sRet,sIf,sSet,sAsg,sPar,sWhile,gTupD,gsCons,gsNil,List.length_cons,List.length_nil,Bool.not_true,Bool.not_false,Bool.false_eq_true,if_true,if_false,Bool.true_eq_false,rdV_0,rdV_1,rdV_2,rdV_3,rdV_4,rdV_5,rdV_6,rdV_7,rdV_8]
                              exact bad (by simp [tieB, placeB, c3])
                          · simp only [c1, c2, decide_true, decide_false, Nat.zero_add,Nat.reduceAdd,Nat.reduceSub,mComp,sFor,runs_bind,runs_pure,runs_ite,runs_asB,runs_asI,runs_newL,runs_getL,runs_setL,runs_mkTup,runs_fail,List.map_cons,List.map_nil,List.replicate,List.cons_append,List.nil_append,List.set_cons_succ,List.set_cons_zero,outD,seqO,mV,mK,mAnd,mOr,mNot,mIf,aNil,aCons,mTup,mLst,aConsD,mCall,mB1,mOp,mChain,oN,oS,mSl,mRev,mIsi,mIsi2,mMt,bV,bOp,bChain,bChain3,bNot,bAnd,bOr,bTrue,iR1,iR2,iSeq,iZip,gN,gIt,sNil,sCons,sEx,sRet,sIf,sSet,sAsg,sPar,sWhile,gTupD,gsCons,gsNil,List.length_cons,List.length_nil,Bool.not_true,Bool.not_false,Bool.false_eq_true,if_true,if_false,Bool.true_eq_false,rdV_0,rdV_1,rdV_2,rdV_3,rdV_4,rdV_5,rdV_6,rdV_7,rdV_8]
                            exact bad (by simp [tieB, c2])
                        · simp only [c1, decide_true, decide_false, Nat.zero_add,Nat.reduceAdd,Nat.reduceSub,mComp,sFor,runs_bind,runs_pure,runs_ite,runs_asB,runs_asI,runs_newL,runs_getL,runs_setL,runs_mkTup,runs_fail,List.map_cons,List.map_nil,List.replicate,List.cons_append,List.nil_append,List.set_cons_succ,List.set_cons_zero,outD,seqO,mV,mK,mAnd,mOr,mNot,mIf,aNil,aCons,mTup,mLst,aConsD,mCall,mB1,mOp,mChain,oN,oS,mSl,mRev,mIsi,mIsi2,mMt,bV,bOp,bChain,bChain3,bNot,bAnd,bOr,bTrue,iR1,iR2,iSeq,iZip,gN,gIt,sNil,sCons,sEx,sRet,sIf,sSet,sAsg,sPar,sWhile,gTupD,gsCons,gsNil,List.length_cons,List.length_nil,Bool.not_true,Bool.not_false,Bool.false_eq_true,if_true,if_false,Bool.true_eq_false,rdV_0,rdV_1,rdV_2,rdV_3,rdV_4,rdV_5,rdV_6,rdV_7,rdV_8]
                          exact bad (by simp [tieB, placeB, c1])
                      | _ =>
                        simp only [wholeB, Nat.zero_add,Nat.reduceAdd,Nat.reduceSub,mComp,sFor,runs_bind,runs_pure,runs_ite,runs_asB,runs_asI,runs_newL,runs_getL,runs_setL,runs_mkTup,runs_fail,List.map_cons,List.map_nil,List.replicate,List.cons_append,List.nil_append,List.set_cons_succ,List.set_cons_zero,outD,seqO,mV,mK,mAnd,mOr,mNot,mIf,aNil,aCons,mTup,mLst,aConsD,mCall,mB1,mOp,mChain,oN,oS,mSl,mRev,mIsi,mIsi2,mMt,bV,bOp,bChain,bChain3,bNot,bAnd,bOr,bTrue,iR1,iR2,iSeq,iZip,gN,gIt,sNil,sCons,sEx,sRet,sIf,sSet,sAsg,sPar,sWhile,gTupD,gsCons,gsNil,List.length_cons,List.length_nil,Bool.not_true,Bool.not_false,Bool.false_eq_true,if_true,if_false,Bool.true_eq_false,rdV_0,rdV_1,rdV_2,rdV_3,rdV_4,rdV_5,rdV_6,rdV_7,rdV_8]
                        exact bad (by simp [tieB, placeB])
                    | _ =>
                      simp only [wholeB, Nat.zero_add,Nat.reduceAdd,Nat.reduceSub,mComp,sFor,runs_bind,runs_pure,runs_ite,runs_asB,runs_asI,runs_newL,runs_getL,runs_setL,runs_mkTup,runs_fail,List.map_cons,List.map_nil,List.replicate,List.cons_append,List.nil_append,List.set_cons_succ,List.set_cons_zero,outD,seqO,mV,mK,mAnd,mOr,mNot,mIf,aNil,aCons,mTup,mLst,aConsD,mCall,mB1,mOp,mChain,oN,oS,mSl,mRev,mIsi,mIsi2,mMt,bV,bOp,bChain,bChain3,bNot,bAnd,bOr,bTrue,iR1,iR2,iSeq,iZip,gN,gIt,sNil,sCons,sEx,sRet,sIf,sSet,sAsg,sPar,sWhile,gTupD,gsCons,gsNil,List.length_cons,List.length_nil,Bool.not_true,Bool.not_false,Bool.false_eq_true,if_true,if_false,Bool.true_eq_false,rdV_0,rdV_1,rdV_2,rdV_3,rdV_4,rdV_5,rdV_6,rdV_7,rdV_8]
                      exact bad (by simp [tieB, placeB])
                | ro us => exact absurd rfl (hu.1 us)
                | _ =>
                  simp [dTy, sub1, runs_pure, runs_bind]
                  exact bad rfl
            | ro ts => exact absurd rfl (ht ts)
            | _ =>
              simp [dTy, sub1, runs_pure, runs_bind, seqO, outD]
              exact q0 rfl
          · have : webB (.tup [.int many, t]) = false := by
              unfold webB
              split
              · next e => injection e with e; injection e with e _; injection e with e; subst e; simp [h14]
              · rfl
            simp only [h0, h14, decide_true, decide_false, Nat.zero_add,Nat.reduceAdd,Nat.reduceSub,mComp,sFor,runs_bind,runs_pure,runs_ite,runs_asB,runs_asI,runs_newL,runs_getL,runs_setL,runs_mkTup,runs_fail,List.map_cons,List.map_nil,List.replicate,List.cons_append,List.nil_append,List.set_cons_succ,List.set_cons_zero,outD,seqO,mV,mK,mAnd,mOr,mNot,mIf,aNil,aCons,mTup,mLst,aConsD,mCall,mB1,mOp,mChain,oN,oS,mSl,mRev,mIsi,mIsi2,mMt,bV,bOp,bChain,bChain3,bNot,bAnd,bOr,bTrue,iR1,iR2,iSeq,iZip,gN,gIt,sNil,sCons,sEx,sRet,sIf,sSet,sAsg,sPar,sWhile,gTupD,gsCons,gsNil,List.length_cons,List.length_nil,Bool.not_true,Bool.not_false,Bool.false_eq_true,if_true,if_false,Bool.true_eq_false,rdV_0,rdV_1,rdV_2,rdV_3,rdV_4,rdV_5,rdV_6,rdV_7,rdV_8]
            exact q0 this
        · have : webB (.tup [.int many, t]) = false := by
            unfold webB
            split
            · next e => injection e with e; injection e with e _; injection e with e; subst e; simp [h0]
            · rfl
          simp only [h0, decide_true, decide_false, Nat.zero_add,Nat.reduceAdd,Nat.reduceSub,mComp,sFor,runs_bind,runs_pure,runs_ite,runs_asB,runs_asI,runs_newL,runs_getL,runs_setL,runs_mkTup,runs_fail,List.map_cons,List.map_nil,List.replicate,List.cons_append,List.nil_append,List.set_cons_succ,List.set_cons_zero,outD,seqO,mV,mK,mAnd,mOr,mNot,mIf,aNil,aCons,mTup,mLst,aConsD,mCall,mB1,mOp,mChain,oN,oS,mSl,mRev,mIsi,mIsi2,mMt,bV,bOp,bChain,bChain3,bNot,bAnd,bOr,bTrue,iR1,iR2,iSeq,iZip,gN,gIt,sNil,sCons,sEx,sRet,sIf,sSet,sAsg,sPar,sWhile,gTupD,gsCons,gsNil,List.length_cons,List.length_nil,Bool.not_true,Bool.not_false,Bool.false_eq_true,if_true,if_false,Bool.true_eq_false,rdV_0,rdV_1,rdV_2,rdV_3,rdV_4,rdV_5,rdV_6,rdV_7,rdV_8]
          exact q0 this
      | _ =>
        simp only [wholeB, Nat.zero_add,Nat.reduceAdd,Nat.reduceSub,mComp,sFor,runs_bind,runs_pure,runs_ite,runs_asB,runs_asI,runs_newL,runs_getL,runs_setL,runs_mkTup,runs_fail,List.map_cons,List.map_nil,List.replicate,List.cons_append,List.nil_append,List.set_cons_succ,List.set_cons_zero,outD,seqO,mV,mK,mAnd,mOr,mNot,mIf,aNil,aCons,mTup,mLst,aConsD,mCall,mB1,mOp,mChain,oN,oS,mSl,mRev,mIsi,mIsi2,mMt,bV,bOp,bChain,bChain3,bNot,bAnd,bOr,bTrue,iR1,iR2,iSeq,iZip,gN,gIt,sNil,sCons,sEx,sRet,sIf,sSet,sAsg,sPar,sWhile,gTupD,gsCons,gsNil,List.length_cons,List.length_nil,Bool.not_true,Bool.not_false,Bool.false_eq_true,if_true,if_false,Bool.true_eq_false,rdV_0,rdV_1,rdV_2,rdV_3,rdV_4,rdV_5,rdV_6,rdV_7,rdV_8]
        exact q0 rfl
  | ro ds => exact absurd rfl (h.1 ds)
  | _ =>
    simp [dTy, sub1, runs_pure, runs_bind, seqO, outD]
    exact q0 rfl
end W
end
section
set_option maxRecDepth 100000
set_option maxHeartbeats 4000000
namespace W
open PySem PySem.Spec PyProof.Rows L2 S3 S4
theorem eq_bl {S : Store} {a b : Bool} {Q : D → Store → Prop} : runs (eqD (.bl a) (.bl b)) S Q ↔ Q (.bl (a == b)) S := by
  unfold eqD
  rw [runs_eq toP_bl toP_bl]
  have : PyData.eqv (.bool a) (.bool b) = (a == b) := by cases a <;> cases b <;> simp [PyData.eqv]
  rw [this]
theorem nr_bl {b : Bool} : ∀ ds, D.bl b ≠ .ro ds := fun ds h => by cases h
theorem r_same {S : Store} {a b : Bool} {Q : D → Store → Prop} : runs (F__law_same [.bl a, .bl b]) S Q ↔ Q (.bl (a == b)) S := by
  unfold F__law_same m__law_same
  refine (runs_fn rfl).trans ?_
  simp only [Nat.zero_add,Nat.reduceAdd,Nat.reduceSub,mComp,sFor,runs_bind,runs_pure,runs_ite,runs_asB,runs_asI,runs_newL,runs_getL,runs_setL,runs_mkTup,runs_fail,List.map_cons,List.map_nil,List.replicate,List.cons_append,List.nil_append,List.set_cons_succ,List.set_cons_zero,outD,seqO,mV,mK,mAnd,mOr,mNot,mIf,aNil,aCons,mTup,mLst,aConsD,mCall,mB1,mOp,mChain,oN,oS,mSl,mRev,mIsi,mIsi2,mMt,bV,bOp,bChain,bChain3,bNot,bAnd,bOr,bTrue,iR1,iR2,iSeq,iZip,gN,gIt,sNil,sCons,sEx,sRet,sIf,sSet,sAsg,sPar,sWhile,gTupD,gsCons,gsNil,List.length_cons,List.length_nil,Bool.not_true,Bool.not_false,Bool.false_eq_true,if_true,if_false,Bool.true_eq_false,rdV_0,rdV_1,rdV_2,rdV_3,rdV_4,rdV_5,rdV_6,rdV_7,rdV_8, runs_isi nr_bl, dTy, sub1]
  simp only [show (("bool" : String) == "tuple" || (("bool" : String) == "bool" && ("tuple" : String) == "int")) = false from rfl, show (("bool" : String) == "list" || (("bool" : String) == "bool" && ("list" : String) == "int")) = false from rfl, Bool.or_false, Nat.zero_add,Nat.reduceAdd,Nat.reduceSub,mComp,sFor,runs_bind,runs_pure,runs_ite,runs_asB,runs_asI,runs_newL,runs_getL,runs_setL,runs_mkTup,runs_fail,List.map_cons,List.map_nil,List.replicate,List.cons_append,List.nil_append,List.set_cons_succ,List.set_cons_zero,outD,seqO,mV,mK,mAnd,mOr,mNot,mIf,aNil,aCons,mTup,mLst,aConsD,mCall,mB1,mOp,mChain,oN,oS,mSl,mRev,mIsi,mIsi2,mMt,bV,bOp,bChain,bChain3,bNot,bAnd,bOr,bTrue,iR1,iR2,iSeq,iZip,gN,gIt,sNil,sCons,sEx,sRet,sIf,sSet,sAsg,sPar,sWhile,gTupD,gsCons,gsNil,List.length_cons,List.length_nil,Bool.not_true,Bool.not_false,Bool.false_eq_true,if_true,if_false,Bool.true_eq_false,rdV_0,rdV_1,rdV_2,rdV_3,rdV_4,rdV_5,rdV_6,rdV_7,rdV_8, eq_bl]
  cases a <;> cases b <;> simp [runs_pure, runs_bind, eq_bl, outD, runs_asB, runs_ite]
def nrB : Nat → D → Bool
  | _, .ro _ => false
  | n + 1, .tup ds => ds.all (nrB n)
  | _, _ => true
theorem nrB_0 {n : Nat} {d : D} (h : nrB n d = true) : nr0 d := fun ds e => by
  subst e
  cases n <;> cases h
theorem nrB_1 {n : Nat} {d : D} (h : nrB (n + 1) d = true) : nr1 d := ⟨nrB_0 h, fun ds e x hx => by
  subst e
  exact nrB_0 (List.all_eq_true.mp h x hx)⟩
def fewB : D → Bool
  | .tup ds => ds.all fun x => match x with
    | .tup ts => decide (ts.length ≤ 18)
    | _ => true
  | _ => true
structure Good (d : D) : Prop where
  nr : nr3 d
  few : ∀ m ts, d = .tup [m, .tup ts] → ts.length ≤ 18
theorem good_of {d : D} (h : nrB 3 d = true) (h2 : fewB d = true) : Good d := ⟨⟨nrB_0 h, fun ds e x hx => by
    subst e
    have hx3 := List.all_eq_true.mp h x hx
    refine ⟨nrB_0 hx3, fun ts et t ht => ?_⟩
    subst et
    exact nrB_1 (List.all_eq_true.mp hx3 t ht)⟩, fun m ts e => by
    subst e
    have := List.all_eq_true.mp h2 (.tup ts) (by simp)
    simpa using this⟩
def goodB (d : D) : Bool := nrB 3 d && fewB d
theorem good_ofB {d : D} (h : goodB d = true) : Good d := by
  unfold goodB at h
  rw [Bool.and_eq_true] at h
  exact good_of h.1 h.2
theorem at_in {xs : List D} {j : Int} (h0 : 0 ≤ j) (h1 : j < xs.length) : ∃ d, atI xs j = some d ∧ d ∈ xs := by
  have hk : j.toNat < xs.length := by omega
  refine ⟨xs[j.toNat], ?_, List.getElem_mem hk⟩
  unfold atI ixN
  simp [h0, h1, hk]
theorem pick {S : Store} {p : Nat} {xs : List D} {j : Int} {Q : D → Store → Prop} (R : D → Prop) (h0 : 0 ≤ j) (h1 : j < xs.length) (hp : S[p]? = some xs) (h : ∀ d ∈ xs, R d) (hQ : ∀ d, R d → Q d S) : runs (ixD (.lst p) (.int j)) S Q := by
  obtain ⟨d, e1, hd⟩ := at_in h0 h1
  simp only [ixD, runs_bind, runs_getL, hp, Option.some.injEq, exists_eq_left', e1, runs_pure]
  exact hQ d (h d hd)
theorem good_all {xs : List D} (h : xs.all goodB = true) : ∀ d ∈ xs, Good d := fun d hd => good_ofB (List.all_eq_true.mp h d hd)
theorem get_l2 {S : Store} {xs ys : List D} : (S ++ [xs] ++ [ys])[S.length]? = some xs := by rw [List.append_assoc]; simp
theorem get_l3 {S : Store} {xs ys zs : List D} : (S ++ [xs] ++ [ys] ++ [zs])[S.length]? = some xs := by rw [List.append_assoc, List.append_assoc]; simp
theorem lm {n : Nat} (h : n ≤ 1000) : n ≤ lim := by unfold lim; omega
theorem r_bad {S : Store} {k : Nat} {Q : D → Store → Prop} (hs : StAt S k) (hQ : ∀ d S', Good d → Kp k S S' → Q d S') : runs (F__law_bad_web [.lst k]) S Q := by
  unfold F__law_bad_web m__law_bad_web
  refine (runs_fn rfl).mpr ?_
  simp only [Nat.zero_add,Nat.reduceAdd,Nat.reduceSub,mComp,sFor,runs_bind,runs_pure,runs_ite,runs_asB,runs_asI,runs_newL,runs_getL,runs_setL,runs_mkTup,runs_fail,List.map_cons,List.map_nil,List.replicate,List.cons_append,List.nil_append,List.set_cons_succ,List.set_cons_zero,outD,seqO,mV,mK,mAnd,mOr,mNot,mIf,aNil,aCons,mTup,mLst,aConsD,mCall,mB1,mOp,mChain,oN,oS,mSl,mRev,mIsi,mIsi2,mMt,bV,bOp,bChain,bChain3,bNot,bAnd,bOr,bTrue,iR1,iR2,iSeq,iZip,gN,gIt,sNil,sCons,sEx,sRet,sIf,sSet,sAsg,sPar,sWhile,gTupD,gsCons,gsNil,List.length_cons,List.length_nil,Bool.not_true,Bool.not_false,Bool.false_eq_true,if_true,if_false,Bool.true_eq_false,rdV_0,rdV_1,rdV_2,rdV_3,rdV_4,rdV_5,rdV_6,rdV_7,rdV_8, lim2, lm (show 0 ≤ 1000 by decide), lm (show 1 ≤ 1000 by decide), lm (show 12 ≤ 1000 by decide), lm (show 5 ≤ 1000 by decide), lm (show 8 ≤ 1000 by decide), true_and, addD]
  simp only [get_l2, get_l3, get_last, Option.some.injEq, exists_eq_left', Nat.zero_add,Nat.reduceAdd,Nat.reduceSub,mComp,sFor,runs_bind,runs_pure,runs_ite,runs_asB,runs_asI,runs_newL,runs_getL,runs_setL,runs_mkTup,runs_fail,List.map_cons,List.map_nil,List.replicate,List.cons_append,List.nil_append,List.set_cons_succ,List.set_cons_zero,outD,seqO,mV,mK,mAnd,mOr,mNot,mIf,aNil,aCons,mTup,mLst,aConsD,mCall,mB1,mOp,mChain,oN,oS,mSl,mRev,mIsi,mIsi2,mMt,bV,bOp,bChain,bChain3,bNot,bAnd,bOr,bTrue,iR1,iR2,iSeq,iZip,gN,gIt,sNil,sCons,sEx,sRet,sIf,sSet,sAsg,sPar,sWhile,gTupD,gsCons,gsNil,List.length_cons,List.length_nil,Bool.not_true,Bool.not_false,Bool.false_eq_true,if_true,if_false,Bool.true_eq_false,rdV_0,rdV_1,rdV_2,rdV_3,rdV_4,rdV_5,rdV_6,rdV_7,rdV_8, lm (show 17 ≤ 1000 by decide), lm (show 25 ≤ 1000 by decide), true_and]
  refine r_takeK (k := k) (by simp only [List.append_assoc]; exact hs.grow) (by decide) (by decide) fun j S' j0 j1 e kp => ?_
  have kp0 : Kp k S S' := Kp.trans (by simp only [List.append_assoc]; exact Kp.grow hs _) kp
  refine pick Good j0 ?_ ((kp.oth _ ?_ ?_).trans get_last) (good_all rfl) fun d g => hQ d S' g kp0
  · exact j1
  · simp only [List.length_append, List.length_cons, List.length_nil]; omega
  · have := hs.lt; simp only [List.length_append, List.length_cons, List.length_nil]; omega
end W
end
section
set_option maxRecDepth 100000
set_option maxHeartbeats 4000000
namespace W
open PySem PySem.Spec PyProof.Rows L2 S3 S4
theorem cut_len {xs : List D} {lo hi : Option Int} : (S3.cutD xs lo hi).length ≤ xs.length := by
  unfold S3.cutD
  rw [List.length_take, List.length_drop]; omega
theorem cut_mem {xs : List D} {lo hi : Option Int} {x : D} (h : x ∈ S3.cutD xs lo hi) : x ∈ xs := by
  unfold S3.cutD at h
  exact List.mem_of_mem_drop (List.mem_of_mem_take h)
structure Part (x : D) : Prop where
  nr : nr0 x
  few : ∀ ts, x = .tup ts → ts.length ≤ 18 ∧ ∀ t ∈ ts, nr1 t
theorem good_tup {xs : List D} (h : ∀ x ∈ xs, Part x) : Good (.tup xs) := ⟨⟨(fun ds e => by cases e), fun ds e x hx => by
    cases e
    exact ⟨(h x hx).nr, fun ts et t ht => ((h x hx).few ts et).2 t ht⟩⟩, fun m ts e => by
    cases e
    exact ((h (.tup ts) (by simp)).few ts rfl).1⟩
theorem part_int {i : Int} : Part (.int i) := ⟨(fun _ e => by cases e), (fun _ e => by cases e)⟩
theorem part_bl {i : Bool} : Part (.bl i) := ⟨(fun _ e => by cases e), (fun _ e => by cases e)⟩
theorem part_str {i : Str} : Part (.str i) := ⟨(fun _ e => by cases e), (fun _ e => by cases e)⟩
theorem part_lst {i : Nat} : Part (.lst i) := ⟨(fun _ e => by cases e), (fun _ e => by cases e)⟩
theorem part_tup {ts : List D} (h : ts.length ≤ 18) (h2 : ∀ t ∈ ts, nr1 t) : Part (.tup ts) := ⟨(fun _ e => by cases e), (fun _ e => by cases e; exact ⟨h, h2⟩)⟩
theorem good_lst {i : Nat} : Good (.lst i) := ⟨⟨(fun ds e => by cases e), fun ds e => by cases e⟩, fun m ts e => by cases e⟩
theorem all2 {a b : D} (ha : Part a) (hb : Part b) : ∀ x ∈ [a, b], Part x := fun x hx => by
  simp only [List.mem_cons, List.not_mem_nil, or_false] at hx
  rcases hx with rfl | rfl
  · exact ha
  · exact hb
theorem log_small {i : Int} (h0 : 0 ≤ i) (h1 : i ≤ 14) : i.natAbs.log2 < 1920 := by
  have : i.natAbs ≤ 14 := by omega
  have := Nat.log2_lt (n := i.natAbs) (k := 1920)
  by_cases hz : i.natAbs = 0
  · rw [hz]; decide
  · rw [Nat.log2_lt hz]
    have : (14 : Nat) < 2 ^ 4 := by decide
    have : (2 : Nat) ^ 4 ≤ 2 ^ 1920 := Nat.pow_le_pow_right (by decide) (by decide)
    omega
theorem cut_hi {xs : List D} {i : Int} (h : 0 ≤ i) : S3.cutD xs none (some i) = xs.take i.toNat := by
  unfold S3.cutD
  obtain ⟨n, rfl⟩ := Int.eq_ofNat_of_zero_le h
  rw [HT.sIx_nat, HT.sIx_none, List.drop_zero, Nat.sub_zero]
  rw [show ((n : Nat) : Int).toNat = n from rfl]
  by_cases c : n ≤ xs.length
  · rw [Nat.min_eq_left c]
  · rw [Nat.min_eq_right (by omega), List.take_length, List.take_of_length_le (by omega)]
theorem cut_lo {xs : List D} {i : Int} (h : 0 ≤ i) : S3.cutD xs (some i) none = xs.drop i.toNat := by
  unfold S3.cutD
  obtain ⟨n, rfl⟩ := Int.eq_ofNat_of_zero_le h
  rw [HT.sIx_nat, HT.sIx_none]
  rw [show ((n : Nat) : Int).toNat = n from rfl]
  by_cases c : n ≤ xs.length
  · rw [Nat.min_eq_left c, List.take_of_length_le (by rw [List.length_drop]; omega)]
  · rw [Nat.min_eq_right (by omega), List.drop_eq_nil_of_le (Nat.le_refl _), List.drop_eq_nil_of_le (by omega)]; simp
theorem cut_1 {xs : List D} {i : Int} (h : 0 ≤ i) : (S3.cutD xs (some i) (some (i + 1))).length ≤ 1 := by
  unfold S3.cutD
  obtain ⟨n, rfl⟩ := Int.eq_ofNat_of_zero_le h
  rw [show (some ((n : Int) + 1) : Option Int) = some ((n + 1 : Nat) : Int) from rfl, HT.sIx_nat, HT.sIx_nat, List.length_take]
  omega
theorem get_l4 {S : Store} {xs ys zs us : List D} : (S ++ [xs] ++ [ys] ++ [zs] ++ [us])[S.length]? = some xs := by rw [List.append_assoc, List.append_assoc, List.append_assoc]; simp
theorem seq_step {m n : TMS} {ρ : Env0} {S : Store} {Q : Out → Store → Prop} (h : ∀ n', n' = n → runs (m ρ) S (fun o S1 => runs (seqO o n') S1 Q)) : runs (sCons m n ρ) S Q := by
  rw [show sCons m n ρ = (m ρ >>= fun o => seqO o n) from rfl, runs_bind]
  exact h n rfl
theorem nr1_of {d : D} (h : nrB 1 d = true) : nr1 d := nrB_1 h
theorem nr1_all {xs : List D} (h : xs.all (nrB 1) = true) : ∀ d ∈ xs, nr1 d := fun d hd => nrB_1 (List.all_eq_true.mp h d hd)
theorem r_bent {S : Store} {k : Nat} {many : Int} {ts : List (List Int)} {Q : D → Store → Prop} (hs : StAt S k) (h0 : 0 ≤ many) (h14 : many ≤ 14) (w : WebOk many ts) (hQ : ∀ d S', Good d → Kp k S S' → Q d S') : runs (F__law_bent [.lst k, .tup [.int many, .tup (ts.map tupI)]]) S Q := by
  unfold F__law_bent m__law_bent
  refine (runs_fn rfl).mpr ?_
  have hr : ∀ t ∈ ts.map tupI, nr1 t := fun t ht => by
    obtain ⟨r, _, rfl⟩ := List.mem_map.mp ht
    refine nr1_of ?_
    unfold tupI nrB
    rw [List.all_map, List.all_eq_true]
    intro x _
    rfl
  have hl : (ts.map tupI).length ≤ 15 := by rw [List.length_map]; exact w.few
  generalize ts.map tupI = Ts at hr hl
  refine seq_step fun R1 hR1 => ?_
  try simp only [Nat.zero_add,Nat.reduceAdd,Nat.reduceSub,mComp,sFor,runs_bind,runs_pure,runs_ite,runs_asB,runs_asI,runs_newL,runs_getL,runs_setL,runs_mkTup,runs_fail,List.map_cons,List.map_nil,List.replicate,List.cons_append,List.nil_append,List.set_cons_succ,List.set_cons_zero,outD,seqO,mV,mK,mAnd,mOr,mNot,mIf,aNil,aCons,mTup,mLst,aConsD,mCall,mB1,mOp,mChain,oN,oS,mSl,mRev,mIsi,mIsi2,mMt,bV,bOp,bChain,bChain3,bNot,bAnd,bOr,bTrue,iR1,iR2,iSeq,iZip,gN,gIt,sNil,sCons,sEx,sRet,sIf,sSet,sAsg,sPar,sWhile,gTupD,gsCons,gsNil,List.length_cons,List.length_nil,Bool.not_true,Bool.not_false,Bool.false_eq_true,if_true,if_false,Bool.true_eq_false,rdV_0,rdV_1,rdV_2,rdV_3,rdV_4,rdV_5,rdV_6,rdV_7,rdV_8]
  subst hR1
  refine seq_step fun R2 hR2 => ?_
  simp only [Nat.zero_add,Nat.reduceAdd,Nat.reduceSub,mComp,sFor,runs_bind,runs_pure,runs_ite,runs_asB,runs_asI,runs_newL,runs_getL,runs_setL,runs_mkTup,runs_fail,List.map_cons,List.map_nil,List.replicate,List.cons_append,List.nil_append,List.set_cons_succ,List.set_cons_zero,outD,seqO,mV,mK,mAnd,mOr,mNot,mIf,aNil,aCons,mTup,mLst,aConsD,mCall,mB1,mOp,mChain,oN,oS,mSl,mRev,mIsi,mIsi2,mMt,bV,bOp,bChain,bChain3,bNot,bAnd,bOr,bTrue,iR1,iR2,iSeq,iZip,gN,gIt,sNil,sCons,sEx,sRet,sIf,sSet,sAsg,sPar,sWhile,gTupD,gsCons,gsNil,List.length_cons,List.length_nil,Bool.not_true,Bool.not_false,Bool.false_eq_true,if_true,if_false,Bool.true_eq_false,rdV_0,rdV_1,rdV_2,rdV_3,rdV_4,rdV_5,rdV_6,rdV_7,rdV_8, lenD, addD]
  refine r_takeK hs (by omega) (by omega) fun at_ S1 a0 a1 e1 k1 => ?_
  try simp only [Nat.zero_add,Nat.reduceAdd,Nat.reduceSub,mComp,sFor,runs_bind,runs_pure,runs_ite,runs_asB,runs_asI,runs_newL,runs_getL,runs_setL,runs_mkTup,runs_fail,List.map_cons,List.map_nil,List.replicate,List.cons_append,List.nil_append,List.set_cons_succ,List.set_cons_zero,outD,seqO,mV,mK,mAnd,mOr,mNot,mIf,aNil,aCons,mTup,mLst,aConsD,mCall,mB1,mOp,mChain,oN,oS,mSl,mRev,mIsi,mIsi2,mMt,bV,bOp,bChain,bChain3,bNot,bAnd,bOr,bTrue,iR1,iR2,iSeq,iZip,gN,gIt,sNil,sCons,sEx,sRet,sIf,sSet,sAsg,sPar,sWhile,gTupD,gsCons,gsNil,List.length_cons,List.length_nil,Bool.not_true,Bool.not_false,Bool.false_eq_true,if_true,if_false,Bool.true_eq_false,rdV_0,rdV_1,rdV_2,rdV_3,rdV_4,rdV_5,rdV_6,rdV_7,rdV_8]
  subst hR2
  refine seq_step fun R3 hR3 => ?_
  simp only [Nat.zero_add,Nat.reduceAdd,Nat.reduceSub,mComp,sFor,runs_bind,runs_pure,runs_ite,runs_asB,runs_asI,runs_newL,runs_getL,runs_setL,runs_mkTup,runs_fail,List.map_cons,List.map_nil,List.replicate,List.cons_append,List.nil_append,List.set_cons_succ,List.set_cons_zero,outD,seqO,mV,mK,mAnd,mOr,mNot,mIf,aNil,aCons,mTup,mLst,aConsD,mCall,mB1,mOp,mChain,oN,oS,mSl,mRev,mIsi,mIsi2,mMt,bV,bOp,bChain,bChain3,bNot,bAnd,bOr,bTrue,iR1,iR2,iSeq,iZip,gN,gIt,sNil,sCons,sEx,sRet,sIf,sSet,sAsg,sPar,sWhile,gTupD,gsCons,gsNil,List.length_cons,List.length_nil,Bool.not_true,Bool.not_false,Bool.false_eq_true,if_true,if_false,Bool.true_eq_false,rdV_0,rdV_1,rdV_2,rdV_3,rdV_4,rdV_5,rdV_6,rdV_7,rdV_8, addD]
  refine r_takeK k1.st (by omega) (by omega) fun a S2 b0 b1 e2 k2 => ?_
  refine r_takeK k2.st (by omega) (by omega) fun b S3' c0 c1 e3 k3 => ?_
  try simp only [Nat.zero_add,Nat.reduceAdd,Nat.reduceSub,mComp,sFor,runs_bind,runs_pure,runs_ite,runs_asB,runs_asI,runs_newL,runs_getL,runs_setL,runs_mkTup,runs_fail,List.map_cons,List.map_nil,List.replicate,List.cons_append,List.nil_append,List.set_cons_succ,List.set_cons_zero,outD,seqO,mV,mK,mAnd,mOr,mNot,mIf,aNil,aCons,mTup,mLst,aConsD,mCall,mB1,mOp,mChain,oN,oS,mSl,mRev,mIsi,mIsi2,mMt,bV,bOp,bChain,bChain3,bNot,bAnd,bOr,bTrue,iR1,iR2,iSeq,iZip,gN,gIt,sNil,sCons,sEx,sRet,sIf,sSet,sAsg,sPar,sWhile,gTupD,gsCons,gsNil,List.length_cons,List.length_nil,Bool.not_true,Bool.not_false,Bool.false_eq_true,if_true,if_false,Bool.true_eq_false,rdV_0,rdV_1,rdV_2,rdV_3,rdV_4,rdV_5,rdV_6,rdV_7,rdV_8]
  subst hR3
  refine seq_step fun R4 hR4 => ?_
  simp only [Nat.zero_add,Nat.reduceAdd,Nat.reduceSub,mComp,sFor,runs_bind,runs_pure,runs_ite,runs_asB,runs_asI,runs_newL,runs_getL,runs_setL,runs_mkTup,runs_fail,List.map_cons,List.map_nil,List.replicate,List.cons_append,List.nil_append,List.set_cons_succ,List.set_cons_zero,outD,seqO,mV,mK,mAnd,mOr,mNot,mIf,aNil,aCons,mTup,mLst,aConsD,mCall,mB1,mOp,mChain,oN,oS,mSl,mRev,mIsi,mIsi2,mMt,bV,bOp,bChain,bChain3,bNot,bAnd,bOr,bTrue,iR1,iR2,iSeq,iZip,gN,gIt,sNil,sCons,sEx,sRet,sIf,sSet,sAsg,sPar,sWhile,gTupD,gsCons,gsNil,List.length_cons,List.length_nil,Bool.not_true,Bool.not_false,Bool.false_eq_true,if_true,if_false,Bool.true_eq_false,rdV_0,rdV_1,rdV_2,rdV_3,rdV_4,rdV_5,rdV_6,rdV_7,rdV_8, lim2, lm (show 0 ≤ 1000 by decide), lm (show 1 ≤ 1000 by decide), lm (show 3 ≤ 1000 by decide), lm (show 13 ≤ 1000 by decide), true_and]
  subst hR4
  refine seq_step fun R5 hR5 => ?_
  simp only [Nat.zero_add,Nat.reduceAdd,Nat.reduceSub,mComp,sFor,runs_bind,runs_pure,runs_ite,runs_asB,runs_asI,runs_newL,runs_getL,runs_setL,runs_mkTup,runs_fail,List.map_cons,List.map_nil,List.replicate,List.cons_append,List.nil_append,List.set_cons_succ,List.set_cons_zero,outD,seqO,mV,mK,mAnd,mOr,mNot,mIf,aNil,aCons,mTup,mLst,aConsD,mCall,mB1,mOp,mChain,oN,oS,mSl,mRev,mIsi,mIsi2,mMt,bV,bOp,bChain,bChain3,bNot,bAnd,bOr,bTrue,iR1,iR2,iSeq,iZip,gN,gIt,sNil,sCons,sEx,sRet,sIf,sSet,sAsg,sPar,sWhile,gTupD,gsCons,gsNil,List.length_cons,List.length_nil,Bool.not_true,Bool.not_false,Bool.false_eq_true,if_true,if_false,Bool.true_eq_false,rdV_0,rdV_1,rdV_2,rdV_3,rdV_4,rdV_5,rdV_6,rdV_7,rdV_8]
  refine r_takeK (k := k) (by simp only [List.append_assoc]; exact k3.st.grow) (by decide) (by decide) fun o S4 o0 o1 e4 k4 => ?_
  have kp4 : Kp k S S4 := (k1.trans (k2.trans k3)).trans (Kp.trans (by simp only [List.append_assoc]; exact Kp.grow k3.st _) k4)
  refine pick nr1 o0 ?_ ((k4.oth _ ?_ ?_).trans get_last) (nr1_all rfl) fun odd godd => ?_
  · exact o1
  · simp only [List.length_append, List.length_cons, List.length_nil]; omega
  · have := k3.st.lt; simp only [List.length_append, List.length_cons, List.length_nil]; omega
  clear k4 e4 o0 o1
  try simp only [Nat.zero_add,Nat.reduceAdd,Nat.reduceSub,mComp,sFor,runs_bind,runs_pure,runs_ite,runs_asB,runs_asI,runs_newL,runs_getL,runs_setL,runs_mkTup,runs_fail,List.map_cons,List.map_nil,List.replicate,List.cons_append,List.nil_append,List.set_cons_succ,List.set_cons_zero,outD,seqO,mV,mK,mAnd,mOr,mNot,mIf,aNil,aCons,mTup,mLst,aConsD,mCall,mB1,mOp,mChain,oN,oS,mSl,mRev,mIsi,mIsi2,mMt,bV,bOp,bChain,bChain3,bNot,bAnd,bOr,bTrue,iR1,iR2,iSeq,iZip,gN,gIt,sNil,sCons,sEx,sRet,sIf,sSet,sAsg,sPar,sWhile,gTupD,gsCons,gsNil,List.length_cons,List.length_nil,Bool.not_true,Bool.not_false,Bool.false_eq_true,if_true,if_false,Bool.true_eq_false,rdV_0,rdV_1,rdV_2,rdV_3,rdV_4,rdV_5,rdV_6,rdV_7,rdV_8]
  subst hR5
  refine seq_step fun R6 hR6 => ?_
  have hA : S3.cutD Ts none (some at_) = Ts.take at_.toNat := cut_hi a0
  have hB : S3.cutD Ts (some (at_ + 1)) none = Ts.drop (at_ + 1).toNat := cut_lo (by omega)
  have hC : S3.cutD Ts (some at_) none = Ts.drop at_.toNat := cut_lo a0
  have hE := cut_1 (xs := Ts) a0
  have mA : ∀ t ∈ Ts.take at_.toNat, nr1 t := fun t ht => hr t (List.mem_of_mem_take ht)
  have mB : ∀ t ∈ Ts.drop (at_ + 1).toNat, nr1 t := fun t ht => hr t (List.mem_of_mem_drop ht)
  have mC : ∀ t ∈ Ts.drop at_.toNat, nr1 t := fun t ht => hr t (List.mem_of_mem_drop ht)
  have mE : ∀ t ∈ S3.cutD Ts (some at_) (some (at_ + 1)), nr1 t := fun t ht => hr t (cut_mem ht)
  have lA : (Ts.take at_.toNat).length = min at_.toNat Ts.length := List.length_take
  have lB : (Ts.drop (at_ + 1).toNat).length = Ts.length - (at_ + 1).toNat := List.length_drop
  have lC : (Ts.drop at_.toNat).length = Ts.length - at_.toNat := List.length_drop
  generalize hEE : S3.cutD Ts (some at_) (some (at_ + 1)) = EE at hE mE
  generalize hAA : Ts.take at_.toNat = AA at *
  generalize hBB : Ts.drop (at_ + 1).toNat = BB at *
  generalize hCC : Ts.drop at_.toNat = CC at *
  have n1 : AA.length ≤ lim := lm (by omega)
  have n2 : BB.length ≤ lim := lm (by omega)
  have n3 : CC.length ≤ lim := lm (by omega)
  have n4 : EE.length ≤ lim := lm (by omega)
  have n5 : (AA ++ BB).length ≤ lim := lm (by rw [List.length_append]; omega)
  have n6 : (AA ++ [odd]).length ≤ lim := lm (by simp only [List.length_append, List.length_cons, List.length_nil]; omega)
  have n7 : (AA ++ [odd] ++ CC).length ≤ lim := lm (by simp only [List.length_append, List.length_cons, List.length_nil]; omega)
  have n8 : (AA ++ [odd] ++ BB).length ≤ lim := lm (by simp only [List.length_append, List.length_cons, List.length_nil]; omega)
  have n9 : (AA ++ EE).length ≤ lim := lm (by simp only [List.length_append, List.length_cons, List.length_nil]; omega)
  have n10 : (AA ++ EE ++ CC).length ≤ lim := lm (by simp only [List.length_append, List.length_cons, List.length_nil]; omega)
  have n11 : Ts.length ≤ lim := lm (by omega)
  have n12 : Ts.reverse.length ≤ lim := by rw [List.length_reverse]; exact n11
  simp only [Nat.zero_add,Nat.reduceAdd,Nat.reduceSub,mComp,sFor,runs_bind,runs_pure,runs_ite,runs_asB,runs_asI,runs_newL,runs_getL,runs_setL,runs_mkTup,runs_fail,List.map_cons,List.map_nil,List.replicate,List.cons_append,List.nil_append,List.set_cons_succ,List.set_cons_zero,outD,seqO,mV,mK,mAnd,mOr,mNot,mIf,aNil,aCons,mTup,mLst,aConsD,mCall,mB1,mOp,mChain,oN,oS,mSl,mRev,mIsi,mIsi2,mMt,bV,bOp,bChain,bChain3,bNot,bAnd,bOr,bTrue,iR1,iR2,iSeq,iZip,gN,gIt,sNil,sCons,sEx,sRet,sIf,sSet,sAsg,sPar,sWhile,gTupD,gsCons,gsNil,List.length_cons,List.length_nil,Bool.not_true,Bool.not_false,Bool.false_eq_true,if_true,if_false,Bool.true_eq_false,rdV_0,rdV_1,rdV_2,rdV_3,rdV_4,rdV_5,rdV_6,rdV_7,rdV_8, lim2, sliceD, addD, subD, int2, hA, hB, hC, hEE, n1, n2, n3, n4, n5, n6, n7, n8, n9, n10, lm (show 1 ≤ 1000 by decide), lm (show 3 ≤ 1000 by decide), true_and]
  subst hR6
  refine seq_step fun R7 hR7 => ?_
  simp only [Nat.zero_add,Nat.reduceAdd,Nat.reduceSub,mComp,sFor,runs_bind,runs_pure,runs_ite,runs_asB,runs_asI,runs_newL,runs_getL,runs_setL,runs_mkTup,runs_fail,List.map_cons,List.map_nil,List.replicate,List.cons_append,List.nil_append,List.set_cons_succ,List.set_cons_zero,outD,seqO,mV,mK,mAnd,mOr,mNot,mIf,aNil,aCons,mTup,mLst,aConsD,mCall,mB1,mOp,mChain,oN,oS,mSl,mRev,mIsi,mIsi2,mMt,bV,bOp,bChain,bChain3,bNot,bAnd,bOr,bTrue,iR1,iR2,iSeq,iZip,gN,gIt,sNil,sCons,sEx,sRet,sIf,sSet,sAsg,sPar,sWhile,gTupD,gsCons,gsNil,List.length_cons,List.length_nil,Bool.not_true,Bool.not_false,Bool.false_eq_true,if_true,if_false,Bool.true_eq_false,rdV_0,rdV_1,rdV_2,rdV_3,rdV_4,rdV_5,rdV_6,rdV_7,rdV_8, lim2, sliceD, addD, subD, int2, hA, hB, hC, hEE, n1, n2, n3, n4, n5, n6, n7, n8, n9, n10, lm (show 1 ≤ 1000 by decide), lm (show 3 ≤ 1000 by decide), lm (show 5 ≤ 1000 by decide), get_l2, get_last, Option.some.injEq, exists_eq_left', true_and]
  subst hR7
  refine seq_step fun R8 hR8 => ?_
  simp only [Nat.zero_add,Nat.reduceAdd,Nat.reduceSub,mComp,sFor,runs_bind,runs_pure,runs_ite,runs_asB,runs_asI,runs_newL,runs_getL,runs_setL,runs_mkTup,runs_fail,List.map_cons,List.map_nil,List.replicate,List.cons_append,List.nil_append,List.set_cons_succ,List.set_cons_zero,outD,seqO,mV,mK,mAnd,mOr,mNot,mIf,aNil,aCons,mTup,mLst,aConsD,mCall,mB1,mOp,mChain,oN,oS,mSl,mRev,mIsi,mIsi2,mMt,bV,bOp,bChain,bChain3,bNot,bAnd,bOr,bTrue,iR1,iR2,iSeq,iZip,gN,gIt,sNil,sCons,sEx,sRet,sIf,sSet,sAsg,sPar,sWhile,gTupD,gsCons,gsNil,List.length_cons,List.length_nil,Bool.not_true,Bool.not_false,Bool.false_eq_true,if_true,if_false,Bool.true_eq_false,rdV_0,rdV_1,rdV_2,rdV_3,rdV_4,rdV_5,rdV_6,rdV_7,rdV_8, lim2, revD, listD, addD, subD, int2, n11, n12, lm (show 1 ≤ 1000 by decide), lm (show 3 ≤ 1000 by decide), lm (show 6 ≤ 1000 by decide), true_and]
  simp only [get_l4, get_last, Option.some.injEq, exists_eq_left', Nat.zero_add,Nat.reduceAdd,Nat.reduceSub,mComp,sFor,runs_bind,runs_pure,runs_ite,runs_asB,runs_asI,runs_newL,runs_getL,runs_setL,runs_mkTup,runs_fail,List.map_cons,List.map_nil,List.replicate,List.cons_append,List.nil_append,List.set_cons_succ,List.set_cons_zero,outD,seqO,mV,mK,mAnd,mOr,mNot,mIf,aNil,aCons,mTup,mLst,aConsD,mCall,mB1,mOp,mChain,oN,oS,mSl,mRev,mIsi,mIsi2,mMt,bV,bOp,bChain,bChain3,bNot,bAnd,bOr,bTrue,iR1,iR2,iSeq,iZip,gN,gIt,sNil,sCons,sEx,sRet,sIf,sSet,sAsg,sPar,sWhile,gTupD,gsCons,gsNil,List.length_cons,List.length_nil,Bool.not_true,Bool.not_false,Bool.false_eq_true,if_true,if_false,Bool.true_eq_false,rdV_0,rdV_1,rdV_2,rdV_3,rdV_4,rdV_5,rdV_6,rdV_7,rdV_8, lm (show 11 ≤ 1000 by decide), true_and]
  subst hR8
  refine seq_step fun R9 hR9 => ?_
  simp only [Nat.zero_add,Nat.reduceAdd,Nat.reduceSub,mComp,sFor,runs_bind,runs_pure,runs_ite,runs_asB,runs_asI,runs_newL,runs_getL,runs_setL,runs_mkTup,runs_fail,List.map_cons,List.map_nil,List.replicate,List.cons_append,List.nil_append,List.set_cons_succ,List.set_cons_zero,outD,seqO,mV,mK,mAnd,mOr,mNot,mIf,aNil,aCons,mTup,mLst,aConsD,mCall,mB1,mOp,mChain,oN,oS,mSl,mRev,mIsi,mIsi2,mMt,bV,bOp,bChain,bChain3,bNot,bAnd,bOr,bTrue,iR1,iR2,iSeq,iZip,gN,gIt,sNil,sCons,sEx,sRet,sIf,sSet,sAsg,sPar,sWhile,gTupD,gsCons,gsNil,List.length_cons,List.length_nil,Bool.not_true,Bool.not_false,Bool.false_eq_true,if_true,if_false,Bool.true_eq_false,rdV_0,rdV_1,rdV_2,rdV_3,rdV_4,rdV_5,rdV_6,rdV_7,rdV_8, strD, addD, log_small h0 h14, lim2, lm (show 3 ≤ 1000 by decide), lm (show 4 ≤ 1000 by decide), get_l2, get_last, Option.some.injEq, exists_eq_left', lm (show 15 ≤ 1000 by decide), true_and]
  subst hR9
  simp only [Nat.zero_add,Nat.reduceAdd,Nat.reduceSub,mComp,sFor,runs_bind,runs_pure,runs_ite,runs_asB,runs_asI,runs_newL,runs_getL,runs_setL,runs_mkTup,runs_fail,List.map_cons,List.map_nil,List.replicate,List.cons_append,List.nil_append,List.set_cons_succ,List.set_cons_zero,outD,seqO,mV,mK,mAnd,mOr,mNot,mIf,aNil,aCons,mTup,mLst,aConsD,mCall,mB1,mOp,mChain,oN,oS,mSl,mRev,mIsi,mIsi2,mMt,bV,bOp,bChain,bChain3,bNot,bAnd,bOr,bTrue,iR1,iR2,iSeq,iZip,gN,gIt,sNil,sCons,sEx,sRet,sIf,sSet,sAsg,sPar,sWhile,gTupD,gsCons,gsNil,List.length_cons,List.length_nil,Bool.not_true,Bool.not_false,Bool.false_eq_true,if_true,if_false,Bool.true_eq_false,rdV_0,rdV_1,rdV_2,rdV_3,rdV_4,rdV_5,rdV_6,rdV_7,rdV_8]
  have gr : ∀ G, Kp k S (S4 ++ G) := fun G => kp4.trans (Kp.grow kp4.st G)
  refine r_takeK (k := k) (by simp only [List.append_assoc]; exact kp4.st.grow) (by decide) (by decide) fun j S' j0 j1 e kp => ?_
  have kp0 : Kp k S S' := Kp.trans (by simp only [List.append_assoc]; exact gr _) kp
  refine pick Good j0 ?_ ((kp.oth _ ?_ ?_).trans get_last) ?_ fun d g => hQ d S' g kp0
  · exact j1
  · simp only [List.length_append, List.length_cons, List.length_nil]; omega
  · have := kp4.st.lt; simp only [List.length_append, List.length_cons, List.length_nil]; omega
  · have pTs : Part (.tup Ts) := part_tup (by omega) hr
    have ap : ∀ {xs ys : List D}, (∀ t ∈ xs, nr1 t) → (∀ t ∈ ys, nr1 t) → ∀ t ∈ xs ++ ys, nr1 t := fun h1 h2 t ht => (List.mem_append.mp ht).elim (h1 t) (h2 t)
    have od : ∀ t ∈ [odd], nr1 t := fun t ht => by
      have : t = odd := by simpa using ht
      rw [this]; exact godd
    have g1 : Good (.tup [.int many, .tup (AA ++ BB)]) := good_tup (all2 part_int (part_tup (by rw [List.length_append]; omega) (ap mA mB)))
    have g2 : Good (.tup [.int many, .tup (AA ++ [odd] ++ CC)]) := good_tup (all2 part_int (part_tup (by simp only [List.length_append, List.length_cons, List.length_nil]; omega) (ap (ap mA od) mC)))
    have g3 : Good (.tup [.int (many - 1), .tup Ts]) := good_tup (all2 part_int pTs)
    have g4 : Good (.tup [.int many, .tup (AA ++ [odd] ++ BB)]) := good_tup (all2 part_int (part_tup (by simp only [List.length_append, List.length_cons, List.length_nil]; omega) (ap (ap mA od) mB)))
    have g5 : Good (.tup [.int many, .tup (AA ++ EE ++ CC)]) := good_tup (all2 part_int (part_tup (by simp only [List.length_append, List.length_cons, List.length_nil]; omega) (ap (ap mA mE) mC)))
    have g6 : Good (.tup [.int many, .tup Ts.reverse]) := good_tup (all2 part_int (part_tup (by rw [List.length_reverse]; omega) fun t ht => hr t (List.mem_reverse.mp ht)))
    have g7 : ∀ q, Good (.tup [.int many, .lst q]) := fun q => good_tup (all2 part_int part_lst)
    have g8 : Good (.tup [.int (many + 1), .tup Ts]) := good_tup (all2 part_int pTs)
    have g9 : Good (.tup [.int many]) := good_ofB rfl
    have g10 : Good (.tup [.tup Ts, .int many]) := good_tup (all2 pTs part_int)
    have g11 : Good (.tup [.int many, .tup Ts, .tup []]) := good_tup fun x hx => by
      simp only [List.mem_cons, List.not_mem_nil, or_false] at hx
      rcases hx with rfl | rfl | rfl
      · exact part_int
      · exact pTs
      · exact part_tup (by simp) (fun t ht => by cases ht)
    have g12 : Good (.tup [.bl true, .tup Ts]) := good_tup (all2 part_bl pTs)
    have g13 : ∀ x, Good (.tup [.str x, .tup Ts]) := fun x => good_tup (all2 part_str pTs)
    have g14 : Good (.tup [.int 15, .tup Ts]) := good_tup (all2 part_int pTs)
    intro d hd
    simp only [List.mem_cons, List.not_mem_nil, or_false] at hd
    rcases hd with rfl | rfl | rfl | rfl | rfl | rfl | rfl | rfl | rfl | rfl | rfl | rfl | rfl | rfl | rfl
    · exact g1
    · exact g2
    · exact g3
    · exact g4
    · exact g5
    · exact g6
    · exact g7 _
    · exact good_lst
    · exact g8
    · exact g9
    · exact g10
    · exact g11
    · exact g12
    · exact g13 _
    · exact g14
end W
end
section
set_option maxRecDepth 100000
set_option maxHeartbeats 4000000
namespace W
open PySem PySem.Spec PyProof.Rows L2 S3 S4
theorem is_nottrue {S : Store} {b : Bool} {Q : D → Store → Prop} : runs (isD (!·) (.bl b) (.bl true)) S Q ↔ Q (.bl (!b)) S := by
  unfold isD
  rw [runs_pure]
  cases b <;> rfl
theorem is_true {S : Store} {b : Bool} {Q : D → Store → Prop} : runs (isD id (.bl b) (.bl true)) S Q ↔ Q (.bl b) S := by
  unfold isD
  rw [runs_pure]
  cases b <;> rfl
theorem good_web {many : Int} {ts : List (List Int)} (w : WebOk many ts) : Good (.tup [.int many, .tup (ts.map tupI)]) := good_tup (all2 part_int (part_tup (by rw [List.length_map]; have := w.few; omega) fun t ht => by
  obtain ⟨r, _, rfl⟩ := List.mem_map.mp ht
  refine nr1_of ?_
  unfold tupI nrB
  rw [List.all_map, List.all_eq_true]
  intro x _
  rfl))
theorem r_look {S : Store} {k q : Nat} {ρ : Env0} {d : D} {xs : List D} {Q : Out → Store → Prop} (hs : StAt S k) (g : Good d) (hρ : ρ[4]? = some (some d)) (hQ : ∀ S', Kp k S S' → Q (.nx ρ) S') : runs (m_law_b3 ρ) S Q := by
  unfold m_law_b3
  have e : rdV ρ 4 = pure d := by unfold rdV; rw [hρ]
  simp only [Nat.zero_add,Nat.reduceAdd,Nat.reduceSub,mComp,sFor,runs_bind,runs_pure,runs_ite,runs_asB,runs_asI,runs_newL,runs_getL,runs_setL,runs_mkTup,runs_fail,List.map_cons,List.map_nil,List.replicate,List.cons_append,List.nil_append,List.set_cons_succ,List.set_cons_zero,outD,seqO,mV,mK,mAnd,mOr,mNot,mIf,aNil,aCons,mTup,mLst,aConsD,mCall,mB1,mOp,mChain,oN,oS,mSl,mRev,mIsi,mIsi2,mMt,bV,bOp,bChain,bChain3,bNot,bAnd,bOr,bTrue,iR1,iR2,iSeq,iZip,gN,gIt,sNil,sCons,sEx,sRet,sIf,sSet,sAsg,sPar,sWhile,gTupD,gsCons,gsNil,List.length_cons,List.length_nil,Bool.not_true,Bool.not_false,Bool.false_eq_true,if_true,if_false,Bool.true_eq_false,rdV_0,rdV_1,rdV_2,rdV_3,rdV_4,rdV_5,rdV_6,rdV_7,rdV_8, e]
  refine r_web g.nr (fun m ts h => by have := g.few m ts h; omega) fun G => ?_
  refine r_lisweb g.nr g.few fun G2 => ?_
  simp only [r_same, Nat.zero_add,Nat.reduceAdd,Nat.reduceSub,mComp,sFor,runs_bind,runs_pure,runs_ite,runs_asB,runs_asI,runs_newL,runs_getL,runs_setL,runs_mkTup,runs_fail,List.map_cons,List.map_nil,List.replicate,List.cons_append,List.nil_append,List.set_cons_succ,List.set_cons_zero,outD,seqO,mV,mK,mAnd,mOr,mNot,mIf,aNil,aCons,mTup,mLst,aConsD,mCall,mB1,mOp,mChain,oN,oS,mSl,mRev,mIsi,mIsi2,mMt,bV,bOp,bChain,bChain3,bNot,bAnd,bOr,bTrue,iR1,iR2,iSeq,iZip,gN,gIt,sNil,sCons,sEx,sRet,sIf,sSet,sAsg,sPar,sWhile,gTupD,gsCons,gsNil,List.length_cons,List.length_nil,Bool.not_true,Bool.not_false,Bool.false_eq_true,if_true,if_false,Bool.true_eq_false,rdV_0,rdV_1,rdV_2,rdV_3,rdV_4,rdV_5,rdV_6,rdV_7,rdV_8, beq_self_eq_true]
  rw [List.append_assoc]
  exact hQ _ (Kp.grow hs _)
theorem r_turn {S : Store} {k p : Nat} {many : Int} {ts : List (List Int)} {o0 o1 o4 : Option D} {Q : Out → Store → Prop} (hs : StAt S k) (h0 : 0 ≤ many) (h14 : many ≤ 14) (w : WebOk many ts)
    (hQ : ∀ (x : Option D) S', Kp k S S' → Q (.nx [o0, o1, some (.lst k), some (.tup [.int many, .tup (ts.map tupI)]), x]) S') :
    runs (m_law_b4 [o0, o1, some (.lst k), some (.tup [.int many, .tup (ts.map tupI)]), o4]) S Q := by
  unfold m_law_b4
  refine seq_step fun R1 hR1 => ?_
  have g := good_web w
  simp only [Nat.zero_add,Nat.reduceAdd,Nat.reduceSub,mComp,sFor,runs_bind,runs_pure,runs_ite,runs_asB,runs_asI,runs_newL,runs_getL,runs_setL,runs_mkTup,runs_fail,List.map_cons,List.map_nil,List.replicate,List.cons_append,List.nil_append,List.set_cons_succ,List.set_cons_zero,outD,seqO,mV,mK,mAnd,mOr,mNot,mIf,aNil,aCons,mTup,mLst,aConsD,mCall,mB1,mOp,mChain,oN,oS,mSl,mRev,mIsi,mIsi2,mMt,bV,bOp,bChain,bChain3,bNot,bAnd,bOr,bTrue,iR1,iR2,iSeq,iZip,gN,gIt,sNil,sCons,sEx,sRet,sIf,sSet,sAsg,sPar,sWhile,gTupD,gsCons,gsNil,List.length_cons,List.length_nil,Bool.not_true,Bool.not_false,Bool.false_eq_true,if_true,if_false,Bool.true_eq_false,rdV_0,rdV_1,rdV_2,rdV_3,rdV_4,rdV_5,rdV_6,rdV_7,rdV_8]
  refine r_web g.nr (fun m ts h => by have := g.few m ts h; omega) fun G => ?_
  have e4 : -(2 ^ 62) ≤ (4 : Int) ∧ (4 : Int) < 2 ^ 62 := ⟨by decide, by decide⟩
  rw [webB_ok h0 h14 w]
  simp only [is_nottrue, Nat.zero_add,Nat.reduceAdd,Nat.reduceSub,mComp,sFor,runs_bind,runs_pure,runs_ite,runs_asB,runs_asI,runs_newL,runs_getL,runs_setL,runs_mkTup,runs_fail,List.map_cons,List.map_nil,List.replicate,List.cons_append,List.nil_append,List.set_cons_succ,List.set_cons_zero,outD,seqO,mV,mK,mAnd,mOr,mNot,mIf,aNil,aCons,mTup,mLst,aConsD,mCall,mB1,mOp,mChain,oN,oS,mSl,mRev,mIsi,mIsi2,mMt,bV,bOp,bChain,bChain3,bNot,bAnd,bOr,bTrue,iR1,iR2,iSeq,iZip,gN,gIt,sNil,sCons,sEx,sRet,sIf,sSet,sAsg,sPar,sWhile,gTupD,gsCons,gsNil,List.length_cons,List.length_nil,Bool.not_true,Bool.not_false,Bool.false_eq_true,if_true,if_false,Bool.true_eq_false,rdV_0,rdV_1,rdV_2,rdV_3,rdV_4,rdV_5,rdV_6,rdV_7,rdV_8]
  subst hR1
  simp only [Nat.zero_add,Nat.reduceAdd,Nat.reduceSub,mComp,sFor,runs_bind,runs_pure,runs_ite,runs_asB,runs_asI,runs_newL,runs_getL,runs_setL,runs_mkTup,runs_fail,List.map_cons,List.map_nil,List.replicate,List.cons_append,List.nil_append,List.set_cons_succ,List.set_cons_zero,outD,seqO,mV,mK,mAnd,mOr,mNot,mIf,aNil,aCons,mTup,mLst,aConsD,mCall,mB1,mOp,mChain,oN,oS,mSl,mRev,mIsi,mIsi2,mMt,bV,bOp,bChain,bChain3,bNot,bAnd,bOr,bTrue,iR1,iR2,iSeq,iZip,gN,gIt,sNil,sCons,sEx,sRet,sIf,sSet,sAsg,sPar,sWhile,gTupD,gsCons,gsNil,List.length_cons,List.length_nil,Bool.not_true,Bool.not_false,Bool.false_eq_true,if_true,if_false,Bool.true_eq_false,rdV_0,rdV_1,rdV_2,rdV_3,rdV_4,rdV_5,rdV_6,rdV_7,rdV_8, rangeI, e4, and_self]
  have kp1 : Kp k S (S ++ G) := Kp.grow hs G
  generalize S ++ G = S1 at kp1
  have bl : blkM [none, some 2, some 3] [o0, o1, some (.lst k), some (.tup [.int many, .tup (ts.map tupI)]), o4] = [none, some (.lst k), some (.tup [.int many, .tup (ts.map tupI)])] := rfl
  rw [bl]
  refine runs_compAll (it := ⟨rangeL 0 (4 : Int).toNat, none⟩) (lm (by decide)) (fun ds ρ ys S' => (∃ x, ρ = [x, some (.lst k), some (.tup [.int many, .tup (ts.map tupI)])]) ∧ Kp k S S' ∧ ds.length + ys.length = 4 ∧ ∀ y ∈ ys, Good y) (fun _ _ _ _ _ => trivial) ?_ ⟨⟨none, rfl⟩, kp1, rfl, fun y hy => by cases hy⟩ ?_
  · rintro d ds ρ ys S2 ⟨⟨x, rfl⟩, kp2, hl, hg⟩
    unfold m_law_t1 m_law_e2
    simp only [Nat.zero_add,Nat.reduceAdd,Nat.reduceSub,mComp,sFor,runs_bind,runs_pure,runs_ite,runs_asB,runs_asI,runs_newL,runs_getL,runs_setL,runs_mkTup,runs_fail,List.map_cons,List.map_nil,List.replicate,List.cons_append,List.nil_append,List.set_cons_succ,List.set_cons_zero,outD,seqO,mV,mK,mAnd,mOr,mNot,mIf,aNil,aCons,mTup,mLst,aConsD,mCall,mB1,mOp,mChain,oN,oS,mSl,mRev,mIsi,mIsi2,mMt,bV,bOp,bChain,bChain3,bNot,bAnd,bOr,bTrue,iR1,iR2,iSeq,iZip,gN,gIt,sNil,sCons,sEx,sRet,sIf,sSet,sAsg,sPar,sWhile,gTupD,gsCons,gsNil,List.length_cons,List.length_nil,Bool.not_true,Bool.not_false,Bool.false_eq_true,if_true,if_false,Bool.true_eq_false,rdV_0,rdV_1,rdV_2,rdV_3,rdV_4,rdV_5,rdV_6,rdV_7,rdV_8]
    refine r_bent kp2.st h0 h14 w fun y S3' gy k3 => ?_
    refine ⟨⟨_, rfl⟩, kp2.trans k3, by simp at hl ⊢; omega, fun z hz => ?_⟩
    rcases List.mem_append.mp hz with hz | hz
    · exact hg z hz
    · have : z = y := by simpa using hz
      rw [this]; exact gy
  · rintro ρ ys S2 ⟨_, kp2, hl, hg⟩
    have yl : ys.length = 4 := by simpa using hl
    simp only [Nat.zero_add,Nat.reduceAdd,Nat.reduceSub,mComp,sFor,runs_bind,runs_pure,runs_ite,runs_asB,runs_asI,runs_newL,runs_getL,runs_setL,runs_mkTup,runs_fail,List.map_cons,List.map_nil,List.replicate,List.cons_append,List.nil_append,List.set_cons_succ,List.set_cons_zero,outD,seqO,mV,mK,mAnd,mOr,mNot,mIf,aNil,aCons,mTup,mLst,aConsD,mCall,mB1,mOp,mChain,oN,oS,mSl,mRev,mIsi,mIsi2,mMt,bV,bOp,bChain,bChain3,bNot,bAnd,bOr,bTrue,iR1,iR2,iSeq,iZip,gN,gIt,sNil,sCons,sEx,sRet,sIf,sSet,sAsg,sPar,sWhile,gTupD,gsCons,gsNil,List.length_cons,List.length_nil,Bool.not_true,Bool.not_false,Bool.false_eq_true,if_true,if_false,Bool.true_eq_false,rdV_0,rdV_1,rdV_2,rdV_3,rdV_4,rdV_5,rdV_6,rdV_7,rdV_8, lm (show ys.length ≤ 1000 by omega), true_and]
    refine r_bad kp2.st.grow fun b S3' gb k3 => ?_
    have kp3 : Kp k S S3' := (kp2.trans (Kp.grow kp2.st _)).trans k3
    have e3 : S3'[S2.length]? = some ys := by rw [k3.oth _ (by simp) (by have := kp2.st.lt; omega)]; exact get_last
    have e5 : (S3' ++ [[b]])[S2.length]? = some ys := by rw [List.getElem?_append_left (List.getElem?_eq_some_iff.mp e3).1]; exact e3
    have ll : (ys ++ [b]).length ≤ lim := lm (by simp; omega)
    simp only [Nat.zero_add,Nat.reduceAdd,Nat.reduceSub,mComp,sFor,runs_bind,runs_pure,runs_ite,runs_asB,runs_asI,runs_newL,runs_getL,runs_setL,runs_mkTup,runs_fail,List.map_cons,List.map_nil,List.replicate,List.cons_append,List.nil_append,List.set_cons_succ,List.set_cons_zero,outD,seqO,mV,mK,mAnd,mOr,mNot,mIf,aNil,aCons,mTup,mLst,aConsD,mCall,mB1,mOp,mChain,oN,oS,mSl,mRev,mIsi,mIsi2,mMt,bV,bOp,bChain,bChain3,bNot,bAnd,bOr,bTrue,iR1,iR2,iSeq,iZip,gN,gIt,sNil,sCons,sEx,sRet,sIf,sSet,sAsg,sPar,sWhile,gTupD,gsCons,gsNil,List.length_cons,List.length_nil,Bool.not_true,Bool.not_false,Bool.false_eq_true,if_true,if_false,Bool.true_eq_false,rdV_0,rdV_1,rdV_2,rdV_3,rdV_4,rdV_5,rdV_6,rdV_7,rdV_8, lm (show 1 ≤ 1000 by decide), addD, e5, get_last, Option.some.injEq, exists_eq_left', ll, true_and, seqI]
    have gall : ∀ y ∈ ys ++ [b], Good y := fun z hz => by
      rcases List.mem_append.mp hz with hz | hz
      · exact hg z hz
      · have : z = b := by simpa using hz
        rw [this]; exact gb
    have kp5 : Kp k S (S3' ++ [[b]] ++ [ys ++ [b]]) := kp3.trans (by rw [List.append_assoc]; exact Kp.grow kp3.st _)
    have e6 : (S3' ++ [[b]] ++ [ys ++ [b]])[(S3' ++ [[b]]).length]? = some (ys ++ [b]) := get_last
    have q1 : (S3' ++ [[b]]).length ≠ k := by have := kp3.st.lt; simp; omega
    generalize (S3' ++ [[b]]).length = q at e6 q1
    generalize S3' ++ [[b]] ++ [ys ++ [b]] = S5 at kp5 e6
    generalize ys ++ [b] = zs at e6 gall
    have ql : q < S5.length := (List.getElem?_eq_some_iff.mp e6).1
    refine runs_for (it := ⟨zs, some q⟩) (fun ds ρ S' => (∃ x, ρ = [o0, o1, some (.lst k), some (.tup [.int many, .tup (ts.map tupI)]), x]) ∧ Kp k S5 S' ∧ ∀ y ∈ ds, Good y) (fun ds ρ S' h => ?_) ?_ ?_ zs _ S5 ⟨⟨_, rfl⟩, .refl kp5.st, gall⟩
    · show S'[q]? = some zs
      rw [h.2.1.oth q ql q1]; exact e6
    · rintro ρ S6 ⟨⟨x, rfl⟩, k6, _⟩
      exact hQ x S6 (kp5.trans k6)
    · rintro d ds ρ S6 ⟨⟨x, rfl⟩, k6, hg6⟩
      simp only [Nat.zero_add,Nat.reduceAdd,Nat.reduceSub,mComp,sFor,runs_bind,runs_pure,runs_ite,runs_asB,runs_asI,runs_newL,runs_getL,runs_setL,runs_mkTup,runs_fail,List.map_cons,List.map_nil,List.replicate,List.cons_append,List.nil_append,List.set_cons_succ,List.set_cons_zero,outD,seqO,mV,mK,mAnd,mOr,mNot,mIf,aNil,aCons,mTup,mLst,aConsD,mCall,mB1,mOp,mChain,oN,oS,mSl,mRev,mIsi,mIsi2,mMt,bV,bOp,bChain,bChain3,bNot,bAnd,bOr,bTrue,iR1,iR2,iSeq,iZip,gN,gIt,sNil,sCons,sEx,sRet,sIf,sSet,sAsg,sPar,sWhile,gTupD,gsCons,gsNil,List.length_cons,List.length_nil,Bool.not_true,Bool.not_false,Bool.false_eq_true,if_true,if_false,Bool.true_eq_false,rdV_0,rdV_1,rdV_2,rdV_3,rdV_4,rdV_5,rdV_6,rdV_7,rdV_8]
      refine r_look (q := q) (xs := zs) k6.st (hg6 d (by simp)) rfl fun S7 k7 => ?_
      exact ⟨⟨_, rfl⟩, k6.trans k7, fun y hy => hg6 y (List.mem_cons_of_mem _ hy)⟩
theorem r_row {S : Store} {ns : List Int} {i : Nat} {o2 o3 o4 : Option D} {Q : Out → Store → Prop}
    (hQ : ∀ (x y z : Option D) S', Q (.nx [some (.ro (ns.map D.int)), some (.int i), x, y, z]) S') :
    runs (m_law_b5 [some (.ro (ns.map D.int)), some (.int i), o2, o3, o4]) S Q := by
  unfold m_law_b5
  refine seq_step fun R1 hR1 => ?_
  simp only [Nat.zero_add,Nat.reduceAdd,Nat.reduceSub,mComp,sFor,runs_bind,runs_pure,runs_ite,runs_asB,runs_asI,runs_newL,runs_getL,runs_setL,runs_mkTup,runs_fail,List.map_cons,List.map_nil,List.replicate,List.cons_append,List.nil_append,List.set_cons_succ,List.set_cons_zero,outD,seqO,mV,mK,mAnd,mOr,mNot,mIf,aNil,aCons,mTup,mLst,aConsD,mCall,mB1,mOp,mChain,oN,oS,mSl,mRev,mIsi,mIsi2,mMt,bV,bOp,bChain,bChain3,bNot,bAnd,bOr,bTrue,iR1,iR2,iSeq,iZip,gN,gIt,sNil,sCons,sEx,sRet,sIf,sSet,sAsg,sPar,sWhile,gTupD,gsCons,gsNil,List.length_cons,List.length_nil,Bool.not_true,Bool.not_false,Bool.false_eq_true,if_true,if_false,Bool.true_eq_false,rdV_0,rdV_1,rdV_2,rdV_3,rdV_4,rdV_5,rdV_6,rdV_7,rdV_8]
  refine r_state fun xs hs => ?_
  try simp only [Nat.zero_add,Nat.reduceAdd,Nat.reduceSub,mComp,sFor,runs_bind,runs_pure,runs_ite,runs_asB,runs_asI,runs_newL,runs_getL,runs_setL,runs_mkTup,runs_fail,List.map_cons,List.map_nil,List.replicate,List.cons_append,List.nil_append,List.set_cons_succ,List.set_cons_zero,outD,seqO,mV,mK,mAnd,mOr,mNot,mIf,aNil,aCons,mTup,mLst,aConsD,mCall,mB1,mOp,mChain,oN,oS,mSl,mRev,mIsi,mIsi2,mMt,bV,bOp,bChain,bChain3,bNot,bAnd,bOr,bTrue,iR1,iR2,iSeq,iZip,gN,gIt,sNil,sCons,sEx,sRet,sIf,sSet,sAsg,sPar,sWhile,gTupD,gsCons,gsNil,List.length_cons,List.length_nil,Bool.not_true,Bool.not_false,Bool.false_eq_true,if_true,if_false,Bool.true_eq_false,rdV_0,rdV_1,rdV_2,rdV_3,rdV_4,rdV_5,rdV_6,rdV_7,rdV_8]
  subst hR1
  generalize S ++ [xs] = S1 at hs
  generalize S.length = k at hs
  simp only [Nat.zero_add,Nat.reduceAdd,Nat.reduceSub,mComp,sFor,runs_bind,runs_pure,runs_ite,runs_asB,runs_asI,runs_newL,runs_getL,runs_setL,runs_mkTup,runs_fail,List.map_cons,List.map_nil,List.replicate,List.cons_append,List.nil_append,List.set_cons_succ,List.set_cons_zero,outD,seqO,mV,mK,mAnd,mOr,mNot,mIf,aNil,aCons,mTup,mLst,aConsD,mCall,mB1,mOp,mChain,oN,oS,mSl,mRev,mIsi,mIsi2,mMt,bV,bOp,bChain,bChain3,bNot,bAnd,bOr,bTrue,iR1,iR2,iSeq,iZip,gN,gIt,sNil,sCons,sEx,sRet,sIf,sSet,sAsg,sPar,sWhile,gTupD,gsCons,gsNil,List.length_cons,List.length_nil,Bool.not_true,Bool.not_false,Bool.false_eq_true,if_true,if_false,Bool.true_eq_false,rdV_0,rdV_1,rdV_2,rdV_3,rdV_4,rdV_5,rdV_6,rdV_7,rdV_8]
  refine r_lweb hs fun m1 t1 S2 a0 a1 w1 k2 => ?_
  refine r_great k2.st fun m2 t2 S3' b0 b1 w2 k3 => ?_
  simp only [Nat.zero_add,Nat.reduceAdd,Nat.reduceSub,mComp,sFor,runs_bind,runs_pure,runs_ite,runs_asB,runs_asI,runs_newL,runs_getL,runs_setL,runs_mkTup,runs_fail,List.map_cons,List.map_nil,List.replicate,List.cons_append,List.nil_append,List.set_cons_succ,List.set_cons_zero,outD,seqO,mV,mK,mAnd,mOr,mNot,mIf,aNil,aCons,mTup,mLst,aConsD,mCall,mB1,mOp,mChain,oN,oS,mSl,mRev,mIsi,mIsi2,mMt,bV,bOp,bChain,bChain3,bNot,bAnd,bOr,bTrue,iR1,iR2,iSeq,iZip,gN,gIt,sNil,sCons,sEx,sRet,sIf,sSet,sAsg,sPar,sWhile,gTupD,gsCons,gsNil,List.length_cons,List.length_nil,Bool.not_true,Bool.not_false,Bool.false_eq_true,if_true,if_false,Bool.true_eq_false,rdV_0,rdV_1,rdV_2,rdV_3,rdV_4,rdV_5,rdV_6,rdV_7,rdV_8, lim2, true_and, seqI, get_last, Option.some.injEq, exists_eq_left']
  have kp3 := k2.trans k3
  have e6 : (S3' ++ [[D.tup [.int m1, .tup (t1.map tupI)], D.tup [.int m2, .tup (t2.map tupI)]]])[S3'.length]? = some [D.tup [.int m1, .tup (t1.map tupI)], D.tup [.int m2, .tup (t2.map tupI)]] := get_last
  have q1 : S3'.length ≠ k := by have := kp3.st.lt; omega
  have kp5 : StAt (S3' ++ [[D.tup [.int m1, .tup (t1.map tupI)], D.tup [.int m2, .tup (t2.map tupI)]]]) k := kp3.st.grow
  generalize S3'.length = q at e6 q1
  generalize S3' ++ [[D.tup [.int m1, .tup (t1.map tupI)], D.tup [.int m2, .tup (t2.map tupI)]]] = S5 at kp5 e6
  have ql : q < S5.length := (List.getElem?_eq_some_iff.mp e6).1
  refine runs_for (it := ⟨[D.tup [.int m1, .tup (t1.map tupI)], D.tup [.int m2, .tup (t2.map tupI)]], some q⟩)
    (fun ds ρ S' => (∃ x y, ρ = [some (.ro (ns.map D.int)), some (.int i), some (.lst k), x, y]) ∧ Kp k S5 S' ∧ ∀ d ∈ ds, ∃ m t, d = D.tup [.int m, .tup (t.map tupI)] ∧ 0 ≤ m ∧ m ≤ 14 ∧ WebOk m t) (fun ds ρ S' h => ?_) ?_ ?_ _ _ S5 ⟨⟨_, _, rfl⟩, .refl kp5, fun d hd => ?_⟩
  · show S'[q]? = some _
    rw [h.2.1.oth q ql q1]; exact e6
  · rintro ρ S6 ⟨⟨x, y, rfl⟩, k6, _⟩
    exact hQ _ x y S6
  · rintro d ds ρ S6 ⟨⟨x, y, rfl⟩, k6, hg6⟩
    obtain ⟨m, t, rfl, c0, c1, wt⟩ := hg6 d (by simp)
    simp only [Nat.zero_add,Nat.reduceAdd,Nat.reduceSub,mComp,sFor,runs_bind,runs_pure,runs_ite,runs_asB,runs_asI,runs_newL,runs_getL,runs_setL,runs_mkTup,runs_fail,List.map_cons,List.map_nil,List.replicate,List.cons_append,List.nil_append,List.set_cons_succ,List.set_cons_zero,outD,seqO,mV,mK,mAnd,mOr,mNot,mIf,aNil,aCons,mTup,mLst,aConsD,mCall,mB1,mOp,mChain,oN,oS,mSl,mRev,mIsi,mIsi2,mMt,bV,bOp,bChain,bChain3,bNot,bAnd,bOr,bTrue,iR1,iR2,iSeq,iZip,gN,gIt,sNil,sCons,sEx,sRet,sIf,sSet,sAsg,sPar,sWhile,gTupD,gsCons,gsNil,List.length_cons,List.length_nil,Bool.not_true,Bool.not_false,Bool.false_eq_true,if_true,if_false,Bool.true_eq_false,rdV_0,rdV_1,rdV_2,rdV_3,rdV_4,rdV_5,rdV_6,rdV_7,rdV_8]
    refine r_turn (p := q) k6.st c0 c1 wt fun z S7 k7 => ?_
    exact ⟨⟨_, _, rfl⟩, k6.trans k7, fun y hy => hg6 y (List.mem_cons_of_mem _ hy)⟩
  · simp only [List.mem_cons, List.not_mem_nil, or_false] at hd
    rcases hd with rfl | rfl
    · exact ⟨m1, t1, rfl, a0, by omega, w1⟩
    · exact ⟨m2, t2, rfl, b0, b1, w2⟩
theorem r_law {S : Store} {ns : List Int} : runs (F_law [.ro (ns.map D.int)]) S (fun d _ => d = .bl true) := by
  unfold F_law m_law
  refine (runs_fn rfl).mpr ?_
  refine seq_step fun R1 hR1 => ?_
  simp only [Nat.zero_add,Nat.reduceAdd,Nat.reduceSub,mComp,sFor,runs_bind,runs_pure,runs_ite,runs_asB,runs_asI,runs_newL,runs_getL,runs_setL,runs_mkTup,runs_fail,List.map_cons,List.map_nil,List.replicate,List.cons_append,List.nil_append,List.set_cons_succ,List.set_cons_zero,outD,seqO,mV,mK,mAnd,mOr,mNot,mIf,aNil,aCons,mTup,mLst,aConsD,mCall,mB1,mOp,mChain,oN,oS,mSl,mRev,mIsi,mIsi2,mMt,bV,bOp,bChain,bChain3,bNot,bAnd,bOr,bTrue,iR1,iR2,iSeq,iZip,gN,gIt,sNil,sCons,sEx,sRet,sIf,sSet,sAsg,sPar,sWhile,gTupD,gsCons,gsNil,List.length_cons,List.length_nil,Bool.not_true,Bool.not_false,Bool.false_eq_true,if_true,if_false,Bool.true_eq_false,rdV_0,rdV_1,rdV_2,rdV_3,rdV_4,rdV_5,rdV_6,rdV_7,rdV_8, lenD, minD, maxD, int2L]
  generalize hn : (if (if (10 : Int) < ((List.map D.int ns).length : Nat) then (10 : Int) else ((List.map D.int ns).length : Nat)) > 1 then (if (10 : Int) < ((List.map D.int ns).length : Nat) then (10 : Int) else ((List.map D.int ns).length : Nat)) else 1) = n
  have n10 : n ≤ 10 := by rw [← hn]; split <;> split <;> omega
  have n1 : 1 ≤ n := by rw [← hn]; split <;> split <;> omega
  have hr : -(2 ^ 62) ≤ n ∧ n < 2 ^ 62 := ⟨by omega, by omega⟩
  simp only [rangeI, hr, and_self, Nat.zero_add,Nat.reduceAdd,Nat.reduceSub,mComp,sFor,runs_bind,runs_pure,runs_ite,runs_asB,runs_asI,runs_newL,runs_getL,runs_setL,runs_mkTup,runs_fail,List.map_cons,List.map_nil,List.replicate,List.cons_append,List.nil_append,List.set_cons_succ,List.set_cons_zero,outD,seqO,mV,mK,mAnd,mOr,mNot,mIf,aNil,aCons,mTup,mLst,aConsD,mCall,mB1,mOp,mChain,oN,oS,mSl,mRev,mIsi,mIsi2,mMt,bV,bOp,bChain,bChain3,bNot,bAnd,bOr,bTrue,iR1,iR2,iSeq,iZip,gN,gIt,sNil,sCons,sEx,sRet,sIf,sSet,sAsg,sPar,sWhile,gTupD,gsCons,gsNil,List.length_cons,List.length_nil,Bool.not_true,Bool.not_false,Bool.false_eq_true,if_true,if_false,Bool.true_eq_false,rdV_0,rdV_1,rdV_2,rdV_3,rdV_4,rdV_5,rdV_6,rdV_7,rdV_8]
  refine runs_for0 (fun ds ρ S' => (∃ x y z u, ρ = [some (.ro (ns.map D.int)), x, y, z, u]) ∧ ∀ d ∈ ds, ∃ i : Nat, d = .int i) ⟨⟨_, _, _, _, rfl⟩, fun d hd => ?_⟩ ?_ ?_
  · unfold rangeL at hd
    obtain ⟨i, _, rfl⟩ := List.mem_map.mp hd
    exact ⟨i, by rw [Int.zero_add]⟩
  · rintro ρ S' ⟨⟨x, y, z, u, rfl⟩, _⟩
    try simp only [Nat.zero_add,Nat.reduceAdd,Nat.reduceSub,mComp,sFor,runs_bind,runs_pure,runs_ite,runs_asB,runs_asI,runs_newL,runs_getL,runs_setL,runs_mkTup,runs_fail,List.map_cons,List.map_nil,List.replicate,List.cons_append,List.nil_append,List.set_cons_succ,List.set_cons_zero,outD,seqO,mV,mK,mAnd,mOr,mNot,mIf,aNil,aCons,mTup,mLst,aConsD,mCall,mB1,mOp,mChain,oN,oS,mSl,mRev,mIsi,mIsi2,mMt,bV,bOp,bChain,bChain3,bNot,bAnd,bOr,bTrue,iR1,iR2,iSeq,iZip,gN,gIt,sNil,sCons,sEx,sRet,sIf,sSet,sAsg,sPar,sWhile,gTupD,gsCons,gsNil,List.length_cons,List.length_nil,Bool.not_true,Bool.not_false,Bool.false_eq_true,if_true,if_false,Bool.true_eq_false,rdV_0,rdV_1,rdV_2,rdV_3,rdV_4,rdV_5,rdV_6,rdV_7,rdV_8]
    subst hR1
    simp only [Nat.zero_add,Nat.reduceAdd,Nat.reduceSub,mComp,sFor,runs_bind,runs_pure,runs_ite,runs_asB,runs_asI,runs_newL,runs_getL,runs_setL,runs_mkTup,runs_fail,List.map_cons,List.map_nil,List.replicate,List.cons_append,List.nil_append,List.set_cons_succ,List.set_cons_zero,outD,seqO,mV,mK,mAnd,mOr,mNot,mIf,aNil,aCons,mTup,mLst,aConsD,mCall,mB1,mOp,mChain,oN,oS,mSl,mRev,mIsi,mIsi2,mMt,bV,bOp,bChain,bChain3,bNot,bAnd,bOr,bTrue,iR1,iR2,iSeq,iZip,gN,gIt,sNil,sCons,sEx,sRet,sIf,sSet,sAsg,sPar,sWhile,gTupD,gsCons,gsNil,List.length_cons,List.length_nil,Bool.not_true,Bool.not_false,Bool.false_eq_true,if_true,if_false,Bool.true_eq_false,rdV_0,rdV_1,rdV_2,rdV_3,rdV_4,rdV_5,rdV_6,rdV_7,rdV_8]
    refine r_web (good_ofB rfl).nr (fun m ts h => by cases h; decide) fun G => ?_
    simp only [show webB (.tup [.int 0, .tup []]) = true from rfl, is_true, Nat.zero_add,Nat.reduceAdd,Nat.reduceSub,mComp,sFor,runs_bind,runs_pure,runs_ite,runs_asB,runs_asI,runs_newL,runs_getL,runs_setL,runs_mkTup,runs_fail,List.map_cons,List.map_nil,List.replicate,List.cons_append,List.nil_append,List.set_cons_succ,List.set_cons_zero,outD,seqO,mV,mK,mAnd,mOr,mNot,mIf,aNil,aCons,mTup,mLst,aConsD,mCall,mB1,mOp,mChain,oN,oS,mSl,mRev,mIsi,mIsi2,mMt,bV,bOp,bChain,bChain3,bNot,bAnd,bOr,bTrue,iR1,iR2,iSeq,iZip,gN,gIt,sNil,sCons,sEx,sRet,sIf,sSet,sAsg,sPar,sWhile,gTupD,gsCons,gsNil,List.length_cons,List.length_nil,Bool.not_true,Bool.not_false,Bool.false_eq_true,if_true,if_false,Bool.true_eq_false,rdV_0,rdV_1,rdV_2,rdV_3,rdV_4,rdV_5,rdV_6,rdV_7,rdV_8]
    refine r_web (good_ofB rfl).nr (fun m ts h => by cases h; decide) fun G => ?_
    simp only [show webB (.tup [.int 14, .tup [.tup [.int 0, .int 13]]]) = true from rfl, is_true, Nat.zero_add,Nat.reduceAdd,Nat.reduceSub,mComp,sFor,runs_bind,runs_pure,runs_ite,runs_asB,runs_asI,runs_newL,runs_getL,runs_setL,runs_mkTup,runs_fail,List.map_cons,List.map_nil,List.replicate,List.cons_append,List.nil_append,List.set_cons_succ,List.set_cons_zero,outD,seqO,mV,mK,mAnd,mOr,mNot,mIf,aNil,aCons,mTup,mLst,aConsD,mCall,mB1,mOp,mChain,oN,oS,mSl,mRev,mIsi,mIsi2,mMt,bV,bOp,bChain,bChain3,bNot,bAnd,bOr,bTrue,iR1,iR2,iSeq,iZip,gN,gIt,sNil,sCons,sEx,sRet,sIf,sSet,sAsg,sPar,sWhile,gTupD,gsCons,gsNil,List.length_cons,List.length_nil,Bool.not_true,Bool.not_false,Bool.false_eq_true,if_true,if_false,Bool.true_eq_false,rdV_0,rdV_1,rdV_2,rdV_3,rdV_4,rdV_5,rdV_6,rdV_7,rdV_8]
  · rintro d ds ρ S' ⟨⟨x, y, z, u, rfl⟩, hd⟩
    obtain ⟨i, rfl⟩ := hd d (by simp)
    simp only [Nat.zero_add,Nat.reduceAdd,Nat.reduceSub,mComp,sFor,runs_bind,runs_pure,runs_ite,runs_asB,runs_asI,runs_newL,runs_getL,runs_setL,runs_mkTup,runs_fail,List.map_cons,List.map_nil,List.replicate,List.cons_append,List.nil_append,List.set_cons_succ,List.set_cons_zero,outD,seqO,mV,mK,mAnd,mOr,mNot,mIf,aNil,aCons,mTup,mLst,aConsD,mCall,mB1,mOp,mChain,oN,oS,mSl,mRev,mIsi,mIsi2,mMt,bV,bOp,bChain,bChain3,bNot,bAnd,bOr,bTrue,iR1,iR2,iSeq,iZip,gN,gIt,sNil,sCons,sEx,sRet,sIf,sSet,sAsg,sPar,sWhile,gTupD,gsCons,gsNil,List.length_cons,List.length_nil,Bool.not_true,Bool.not_false,Bool.false_eq_true,if_true,if_false,Bool.true_eq_false,rdV_0,rdV_1,rdV_2,rdV_3,rdV_4,rdV_5,rdV_6,rdV_7,rdV_8]
    exact r_row fun x y z S2 => ⟨⟨_, _, _, _, rfl⟩, fun e he => hd e (List.mem_cons_of_mem _ he)⟩
end W
end
section
set_option maxRecDepth 100000
set_option maxHeartbeats 8000000
namespace W
open PySem PySem.Spec PyProof.Rows L2 S3 S4
theorem sp_law (K : PySem.W.Frag) (H : Hp) (a : Addr) (ns : List Int) (hO : Only H) (hS : SqL K H a (ns.map V.int)) : spM K F_law [.ref a] H (fun v _ => v = .bl true) fun _ _ _ => False := by
  have ron : Ron K H a (ns.map V.int) := by
    rcases hS with (h | ⟨o, h⟩) | h
    · rcases hO a with z | ⟨o, xs, z⟩
      · rw [z] at h; cases h
      · rw [z] at h; cases h
    · exact .inl ⟨o, h⟩
    · exact .inr h
  obtain ⟨d, S', e, hd⟩ := r_law (S := []) (ns := ns)
  refine ⟨[], [], [.ro (ns.map D.int)], ⟨.nil, rfl, fun k a xs h => by cases h⟩, .cons (.ro ron (ints_rel ns)) .nil, ?_⟩
  refine ⟨.ok d, S', e, fun ι' H' _ _ => ?_⟩
  subst hd
  intro v hv
  cases hv
  rfl
theorem walk {l : PySem.W.OpenLaw} {q : Program} {loose : List Str} {XP : (Str → Option Value) → Heap → Prop} {YP : World → Heap → Prop} {d : DefRec} {K : Params → PySem.W.Frag} (hn : l.most = some 63) (hdf : d.params.defaults = [])
    (hY : ∀ (w : World) (h : Heap), YP w h → (K w.params).In h)
    (F : ∀ (w : World) (mg : Str → Option Value) (fa : Addr) (h : Heap), (K w.params).In h → h.Ns mainGlobals mg → mg d.name = some (.ref fa) →
      ∃ fd : FuncData, (∀ (s : Shared) (u : Value), BindsTo s fd ⟨[u], []⟩ [("_law_script", u)]) ∧ ∀ base : Heap, (K w.params).In base → base.Ns mainGlobals mg → FnOk l.prog w (K w.params) mg base CX0 5 fa fd ["_law_script"] (spM (K w.params) F_law)) :
    PySem.W.WalkO q loose XP YP l.row.toRowW d [] (fun f vs => PySem.call f vs) :=
  L2.walk_of (n := 63) (k := 5) (x := "_law_script") (CX := fun _ => CX0) (sp := fun w => spM (K w.params) F_law) hn (by decide) hdf ⟨rfl, by decide, by decide⟩ hY F (fun w H a ns _ hO hS => sp_law (K w.params) H a ns hO hS) fun _ _ _ _ _ z => z
end W
open PySem PySem.W PyProof.Rows
set_option maxRecDepth 100000 in
set_option maxHeartbeats 0 in
theorem PySem.Challenge.cw_tiewebs_k01_webs_known_holds : PySem.Challenge.rw_tiewebs_k01_webs_known.Holds := by
  w_on; o_law; k_head; (case hw => w_witness2)
  k_fill
  refine W.walk (l := PySem.Challenge.rw_tiewebs_k01_webs_known) rfl rfl (fun w h Y => PySem.W.kIn_of Y) ?F
  case F =>
    intro w mg fa h KX G hmg
    refine' W.all_mk KX G hmg ?a2 ?l2 ?c2 ?k2 ?a3 ?l3 ?c3 ?k3 ?a4 ?l4 ?c4 ?k4 ?a5 ?l5 ?c5 ?k5 ?a6 ?l6 ?c6 ?k6 ?a7 ?l7 ?c7 ?k7 ?a9 ?l9 ?c9 ?k9 ?a10 ?l10 ?c10 ?k10 ?a11 ?l11 ?c11 ?k11 ?a12 ?l12 ?c12 ?k12 ?a13 ?l13 ?c13 ?k13 ?a14 ?l14 ?c14 ?k14 ?a15 ?l15 ?c15 ?k15 ?a16 ?l16 ?c16 ?k16 ?a17 ?l17 ?c17 ?k17 ?a18 ?l18 ?c18 ?k18 ?a19 ?l19 ?c19 ?k19 ?a20 ?l20 ?c20 ?k20 ?a21 ?l21 ?c21 ?k21 ?z_all ?z_bool ?z_int ?z_isinstance ?z_len ?z_list ?z_max ?z_min ?z_range ?z_set ?z_sorted ?z_str ?z_tuple ?z_zip ?z_MOST_PLACES
    (case a2 => k_is)
    (case l2 => k_is)
    (case c2 => k_is)
    (case k2 => k_is)
    (case a3 => k_is)
    (case l3 => k_is)
    (case c3 => k_is)
    (case k3 => k_is)
    (case a4 => k_is)
    (case l4 => k_is)
    (case c4 => k_is)
    (case k4 => k_is)
    (case a5 => k_is)
    (case l5 => k_is)
    (case c5 => k_is)
    (case k5 => k_is)
    (case a6 => k_is)
    (case l6 => k_is)
    (case c6 => k_is)
    (case k6 => k_is)
    (case a7 => k_is)
    (case l7 => k_is)
    (case c7 => k_is)
    (case k7 => k_is)
    (case a9 => k_is)
    (case l9 => k_is)
    (case c9 => k_is)
    (case k9 => k_is)
    (case a10 => k_is)
    (case l10 => k_is)
    (case c10 => k_is)
    (case k10 => k_is)
    (case a11 => k_is)
    (case l11 => k_is)
    (case c11 => k_is)
    (case k11 => k_is)
    (case a12 => k_is)
    (case l12 => k_is)
    (case c12 => k_is)
    (case k12 => k_is)
    (case a13 => k_is)
    (case l13 => k_is)
    (case c13 => k_is)
    (case k13 => k_is)
    (case a14 => k_is)
    (case l14 => k_is)
    (case c14 => k_is)
    (case k14 => k_is)
    (case a15 => k_is)
    (case l15 => k_is)
    (case c15 => k_is)
    (case k15 => k_is)
    (case a16 => k_is)
    (case l16 => k_is)
    (case c16 => k_is)
    (case k16 => k_is)
    (case a17 => k_is)
    (case l17 => k_is)
    (case c17 => k_is)
    (case k17 => k_is)
    (case a18 => k_is)
    (case l18 => k_is)
    (case c18 => k_is)
    (case k18 => k_is)
    (case a19 => k_is)
    (case l19 => k_is)
    (case c19 => k_is)
    (case k19 => k_is)
    (case a20 => k_is)
    (case l20 => k_is)
    (case c20 => k_is)
    (case k20 => k_is)
    (case a21 => k_is)
    (case l21 => k_is)
    (case c21 => k_is)
    (case k21 => k_is)
    (case z_all => k_is)
    (case z_bool => k_is)
    (case z_int => k_is)
    (case z_isinstance => k_is)
    (case z_len => k_is)
    (case z_list => k_is)
    (case z_max => k_is)
    (case z_min => k_is)
    (case z_range => k_is)
    (case z_set => k_is)
    (case z_sorted => k_is)
    (case z_str => k_is)
    (case z_tuple => k_is)
    (case z_zip => k_is)
    (case z_MOST_PLACES => k_is)
#print axioms PySem.Challenge.cw_tiewebs_k01_webs_known_holds
end
